/-
  Walks: the specification's l9Line, a letter that is set.
-/
import Derived.Test.YtnebjnglcfebeaaDoorParS4
namespace Go.Proofs.YtnebjnglcfebeaaDoor
open Go.RowKit
set_option linter.unusedVariables false
set_option linter.unusedSimpArgs false
set_option maxRecDepth 20000 in
set_option maxHeartbeats 8000000 in
theorem lineA {n c k : Nat} {T : Nat → Spn} {a : Option Addr} (IH : LineIH n T a c k) (ha : tokAll T n = true) (hn : n ≤ 300) {w : World} {g p : Nat} {v : Value} {L : List Nb} (h : Cur w g (.slice a n c) p v) (hl : NL g w v L) (ht : TokB w a n T g) (hp : p ≤ n) (hk : n ≤ p + k) (hL : L.length + (n - p) ≤ 1048000) (e1 : tkK n T p = 2) (e2 : tkK n T (p + 1) = 6) :
    Calls Tryd.prog 18 #[.pointer (some ⟨g, 0, none⟩)] w fun e w' => LinePost (.slice a n c) w g v L (lineP n T (k + 1) p) e w' := by
  obtain ⟨va, vc, ev⟩ := hl.row.slice
  subst ev
  have H : Hid (St (.slice a n c) w g (.slice va L.length vc) w p (.slice va L.length vc) L) := St.start h hl
  have HG : Hid (g < w.heap.size) := H.out.lt
  have HT : Hid (TokB w a n T g) := ht
  have HN : Hid (NL g w (.slice va L.length vc) L) := hl
  have HI : Hid (LineIH n T a c k) := IH
  have HA : Hid (tokAll T n = true) := ha
  have KD : Hid (∀ W, Below w.heap.size w W → Calls Tryd.prog 34 #[.pointer (some ⟨g, 0, none⟩), .int .i64 0] W fun e w' => e = .returned (.int .i64 (tkK n T p)) ∧ Below W.heap.size W w') := fun W hb => kind_spec (H.out.keep hb).cur (ht.ssA.keep hb) 0 (by omega) (by omega) (by decide)
  have KE : Hid (∀ W, Below w.heap.size w W → Calls Tryd.prog 34 #[.pointer (some ⟨g, 0, none⟩), .int .i64 1] W fun e w' => e = .returned (.int .i64 (tkK n T (p + 1))) ∧ Below W.heap.size W w') := fun W hb => kind_spec (H.out.keep hb).cur (ht.ssA.keep hb) 1 (by omega) (by omega) (by decide)
  clear h hl ht IH ha
  have hlt1 := tkK_in (n := n) (T := T) (p := p + 1) (by omega)
  have hlt := tkK_in (n := n) (T := T) (p := p) (by omega)
  have TV := tkN_at (n := n) (T := T) hlt
  have EX : Hid (lineP n T (k + 1) p = match lineP n T k (p + 2) with
      | none => none
      | some x => some (.set (tkN n T p) x.1, x.2)) := by show _ = _; rw [lineP, if_pos ⟨e1, e2⟩]; rfl
  have CL : Hid (∀ W, St (.slice a n c) w g (.slice va L.length vc) W (p + 2) (.slice va L.length vc) L → Calls Tryd.prog 18 #[.pointer (some ⟨g, 0, none⟩)] W fun e w' => LinePost (.slice a n c) W g (.slice va L.length vc) L (lineP n T k (p + 2)) e w') := fun W hS => HI.out W g (p + 2) _ L hS.cur hS.nl (HT.out.below (hS.vbelow HG.out HN.out)) (by omega) (by omega) (by omega)
  rw [e1] at KD
  rw [e2] at KE
  clear e1 e2 HI
  obtain ⟨o, off, rfl, hog, q1, q2⟩ := HT.out.at hlt
  rw [← TV] at q2
  generalize tkN n T p = z at *
  have CT : Hid (∀ W, Below w.heap.size w W → W.cell? ⟨o, off + p * 2 + 1, none⟩ = some (.int .i64 z)) := fun W hb => (hb.cell (p := ⟨o, off + p * 2 + 1, none⟩) (show o < w.heap.size by have := HG.out; omega)).trans q2
  have i3 : (0 : Int) ≤ (p : Int) := by omega
  have i4 : (p : Int) < (n : Int) := by omega
  have w2p : IntKind.i64.wrap ((p : Int) + 2) = ((p + 2 : Nat) : Int) := by rw [IntKind.wrap_i64]; omega
  clear q1 q2 TV
  cases hx : lineP n T k (p + 2) with
  | none =>
    rw [hx] at EX CL
    rw [EX.out]
    clear EX hx
    go_enter Tryd.func18, Tryd.ntmps18
    go_wp2_with fail
    refine (KD.out _ (Below.refl _ _)).mono ?_
    rintro r w1 ⟨rfl, hb⟩
    have B1 : Hid (Below w.heap.size w w1) := hb
    clear hb KD
    go_wp2_with fail
    refine (KE.out _ B1.out).mono ?_
    rintro r w2 ⟨rfl, hb⟩
    have B2 : Hid (Below w.heap.size w w2) := bTrans B1.out hb
    clear hb KE B1
    have S2 : Hid (St (.slice (some ⟨o, off, none⟩) n c) w g (.slice va L.length vc) w2 p (.slice va L.length vc) L) := H.out.keep B2.out
    have SD : Hid (St (.slice (some ⟨o, off, none⟩) n c) w g (.slice va L.length vc) w2.drew p (.slice va L.length vc) L) := H.out.keep B2.out.drew
    have c0 := S2.out.c0
    have c1 := S2.out.c1
    have cf := S2.out.free 1
    have cz := CT.out _ B2.out
    go_wp2_with fail
    go_region_law (fail)
    all_goals
      go_wp2_with fail
      first | refine (CL.out _ (SD.out.move (p + 2))).mono ?_ | refine (CL.out _ (S2.out.move (p + 2))).mono ?_
      rintro r w3 ⟨rfl, hb⟩
      have B3 : Hid (Below g w w3) := ((SD.out.move (p + 2)).vbelow HG.out HN.out).trans hb
      clear hb CL S2 SD B2 c0 c1 cf cz
      go_wp2
      go_ret
      exact ⟨rfl, B3.out⟩
  | some y =>
    obtain ⟨y1, q⟩ := y
    rw [hx] at EX CL
    simp only at EX
    have YF : Hid (p + 2 < q ∧ q ≤ n ∧ y1.size + (p + 2) ≤ q) := lineP_fine (n := n) (T := T) k (p + 2) _ hx
    have YP : Hid (1 ≤ y1.size) := y1.size_pos
    rw [EX.out]
    clear EX hx
    go_enter Tryd.func18, Tryd.ntmps18
    go_wp2_with fail
    refine (KD.out _ (Below.refl _ _)).mono ?_
    rintro r w1 ⟨rfl, hb⟩
    have B1 : Hid (Below w.heap.size w w1) := hb
    clear hb KD
    go_wp2_with fail
    refine (KE.out _ B1.out).mono ?_
    rintro r w2 ⟨rfl, hb⟩
    have B2 : Hid (Below w.heap.size w w2) := bTrans B1.out hb
    clear hb KE B1
    have S2 : Hid (St (.slice (some ⟨o, off, none⟩) n c) w g (.slice va L.length vc) w2 p (.slice va L.length vc) L) := H.out.keep B2.out
    have SD : Hid (St (.slice (some ⟨o, off, none⟩) n c) w g (.slice va L.length vc) w2.drew p (.slice va L.length vc) L) := H.out.keep B2.out.drew
    have c0 := S2.out.c0
    have c1 := S2.out.c1
    have cf := S2.out.free 1
    have cz := CT.out _ B2.out
    go_wp2_with fail
    go_region_law (fail)
    all_goals
      go_wp2_with fail
      first | refine (CL.out _ (SD.out.move (p + 2))).mono ?_ | refine (CL.out _ (S2.out.move (p + 2))).mono ?_
      rintro r w3 ⟨rfl, v3, M, hS, hM⟩
      have S3 : Hid (St (.slice (some ⟨o, off, none⟩) n c) w g (.slice va L.length vc) w3 q v3 (L ++ M)) := (SD.out.move (p + 2)).trans hS
      have HM : Hid (M.map (fun z => z.1) = y1.flat L.length) := hM
      have ML : Hid (M.length = y1.size) := by show _ = _; rw [← List.length_map (f := fun z : Nb => z.1), hM, Br.flat_len]
      clear hS hM CL S2 SD B2 c0 c1 cf cz
      obtain ⟨vb, vd, ev3⟩ := S3.out.nl.row.slice
      subst ev3
      obtain ⟨R, hR⟩ : ∃ R, R = L ++ M := ⟨_, rfl⟩
      have RL : Hid (R.length = L.length + y1.size) := by show _ = _; rw [hR, List.length_append, ML.out]
      rw [← hR] at S3
      have HR : Hid (R = L ++ M) := hR
      have wl : IntKind.i64.wrap ((R.length : Int) - 1) = (R.length : Int) - 1 := by have := RL.out; have := YF.out; rw [IntKind.wrap_i64]; omega
      clear hR
      have c2 := S3.out.c2
      have o2 : ∀ O : Obj, (w3.alloc O).cell? ⟨g, 2, none⟩ = _ := fun O => (S3.out.keep (bAlloc (Below.refl _ _) O)).c2
      obtain ⟨a9, c9, w9, hr, ⟨u9, hu9⟩, hf9, hS9⟩ := S3.out.app (V := (w3.alloc (.cells #[.int .i64 3, .int .i64 z, .int .i64 ((R.length : Int) - 1), .int .i64 0, .int .i64 0, .int .i64 0, .slice none 0 0] 67)).drew) (o := w3.heap.size) ((bAlloc (Below.refl _ _) _).drew) (⟨3, z, (R.length : Int) - 1, 0, 0, 0, []⟩, .slice none 0 0, 0) (heap_alloc_new w3 _) (Piece.nil _ _ _) (fun e => absurd rfl e) (by have := RL.out; have := YF.out; omega)
      have R9 : Hid (∀ ty, (Builtin.append_ #[24, 24] ty #[.slice vb R.length vd, .slice (some ⟨w3.heap.size, 0, none⟩) 1 1]).run Tryd.prog (w3.alloc (.cells #[.int .i64 3, .int .i64 z, .int .i64 ((R.length : Int) - 1), .int .i64 0, .int .i64 0, .int .i64 0, .slice none 0 0] 67)).drew = .ok (.slice a9 (R.length + 1) c9) w9) := hr
      have S9 : Hid (St (.slice (some ⟨o, off, none⟩) n c) w g (.slice va L.length vc) (w9.setCell ⟨g, 2, none⟩ (.slice a9 (R.length + 1) c9)) q (.slice a9 (R.length + 1) c9) (L ++ (M ++ [(⟨3, z, (R.length : Int) - 1, 0, 0, 0, []⟩, .slice none 0 0, 0)]))) := by rw [← List.append_assoc, ← HR.out]; exact hS9
      clear hr hS9 S3
      go_wp2_with fail
      go_region_law (refine step_append_ty (by rfl) (.tmp 46) (.tmp 55) 24 24 (by rfl) _ _ _ (by rfl) (by rfl) (R9.out _) ?_)
      all_goals
        obtain ⟨W9, hW9⟩ : ∃ W9, W9 = w9.setCell ⟨g, 2, none⟩ (.slice a9 (R.length + 1) c9) := ⟨_, rfl⟩
        rw [← hW9] at S9 ⊢
        clear hW9 hu9 hf9 R9 c2 o2
        go_wp2
        go_ret
        exact ⟨rfl, _, _, S9.out, by rw [List.map_append, HM.out]; simp only [Br.flat, List.map_cons, List.map_nil, RL.out, Int.natCast_add]⟩
end Go.Proofs.YtnebjnglcfebeaaDoor
