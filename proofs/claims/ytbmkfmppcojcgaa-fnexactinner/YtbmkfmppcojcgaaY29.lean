/-
  Several texts, one behind the other: ImplEach2, ImplMap, ImplAlike.
-/
import Derived.Test.YtbmkfmppcojcgaaY28
import Derived.Test.YtbmkfmppcojcgaaY22
import Derived.DeepKeys4
import Derived.WideKeyEntry
import Derived.RegionTactic
import Derived.ChangeAlike
namespace Go.Proofs.Ytbmkfmppcojcgaa
open Go.RowKit
set_option linter.unusedVariables false
set_option linter.unusedSimpArgs false
set_option maxRecDepth 20000 in
set_option maxHeartbeats 4000000 in
/-- filled. -/
theorem filled_impl {F : List (List Int)} {V : Nat → Int × Int} {w : World} {f n m ca B E sc : Nat} {aa sa : Option Addr} {p : Value} {S : List Int}
    (hE : ∀ (args : Array Value) (w : World), (callFunc f args).run Try.prog w = .ok (.enter f args) w) (hA : ArrsI w (.slice aa m ca) F) (hm : m ≤ 2) (hn : n ≤ 300) (hL : ∀ j, (F.getD j []).length ≤ 1048576)
    (hN : ∀ i, i < m → (F.getD (2 * i) [] = [] → 0 < (F.getD (2 * i + 1) []).length) ∧ (F.getD (2 * i) [] ≠ [] → n ≤ (F.getD (2 * i + 1) []).length))
    (hV : ∀ (W : World) (A k : Nat), k < n → Below w.heap.size w W → Ints W (some ⟨A, 0, none⟩) (numsAt F m k) → Calls Try.prog f #[.slice (some ⟨A, 0, none⟩) m m, p] W fun r W' => r = .returned (.tuple #[.int .i64 (V k).1, .int .i64 (V k).2]) ∧ Below W.heap.size W W')
    (hS : Piece B E w (.slice sa S.length sc) S) (hBE : B ≤ E) (hEw : E ≤ w.heap.size) (hz : sizeV S = (n : Int)) :
    Calls Try.prog 84 #[.slice sa S.length sc, .func (.func f) #[] #[p], .slice aa m ca] w fun r w' => ∃ v', r = .returned (.tuple #[v', .int .i64 (placesC V n)]) ∧ Arr B w'.heap.size w' v' (if placesC V n = 0 then S else []) (placesD V n) ∧ Below w.heap.size w w' := by
  have HI : Hid (Ints w sa S) := by
    obtain ⟨a', c', e', i'⟩ := hS.ints
    cases e'
    exact i'
  have HS : Hid (Piece B E w (.slice sa S.length sc) S) := hS
  have HSZ : Hid (∀ W, Ints W sa S → Calls Try.prog 26 #[.slice sa S.length sc] W fun e w' => e = .returned (.int .i64 (n : Int)) ∧ Below W.heap.size W w') := fun W h => by
    have := size_impl sc h
    rw [hz] at this
    exact this
  have HEP : Hid (∀ W, Below w.heap.size w W → Calls Try.prog 111 #[.int .i64 (n : Int), .func (.func f) #[] #[p], .slice aa m ca] W fun r w' => ∃ a' c', r = .returned (.tuple #[.slice a' (placesD V n).length c', .int .i64 (placesC V n)]) ∧ Piece W.heap.size w'.heap.size w' (.slice a' (placesD V n).length c') (placesD V n) ∧ Below W.heap.size W w') :=
    fun W h => eachPlace_impl hE (hA.keep h) hm hn hL hN (fun W' A k hk hb hi => hV W' A k hk (bTrans h hb) hi)
  have HBE : Hid (B ≤ E ∧ E ≤ w.heap.size) := ⟨hBE, hEw⟩
  have HD0 : Hid (placesC V n ≠ 0 → placesD V n = []) := fun h => by unfold placesD; rw [if_neg h]
  obtain ⟨S', hS'⟩ : ∃ S', S' = (if placesC V n = 0 then S else []) := ⟨_, rfl⟩
  have HS1 : Hid (placesC V n = 0 → S' = S) := fun h => by rw [hS', if_pos h]
  have HS2 : Hid (placesC V n ≠ 0 → S' = []) := fun h => by rw [hS', if_neg h]
  rw [← hS']
  clear hS'
  generalize placesC V n = C at *
  generalize placesD V n = D at *
  clear hE hA hm hn hL hN hV hS hBE hEw hz
  go_enter Try.func84, Try.ntmps84
  go_wp2_with fail
  refine (HSZ.out _ (HI.out.keep (bAlloc (Below.refl _ _) _))).mono ?_
  rintro r w1 ⟨rfl, hb⟩
  have HB1 : Hid (Below w.heap.size w w1) := bTrans (bAlloc (Below.refl _ _) _) hb
  have Y1 : Hid (Box w1 w.heap.size (.slice none 0 0) (.slice none 0 0) 26) := (box_new w _ _ _).keep hb
  clear hb
  go_wp2_with fail
  refine (HEP.out _ HB1.out).mono ?_
  rintro r w2 ⟨a2, c2, rfl, hp, hb⟩
  have HP2 : Hid (Piece w1.heap.size w2.heap.size w2 (.slice a2 D.length c2) D) := hp
  have HB2 : Hid (Below w.heap.size w w2) := bTrans HB1.out hb
  have Y2 : Hid (Box w2 w.heap.size (.slice none 0 0) (.slice none 0 0) 26) := Y1.out.keep hb
  have LT : Hid (w.heap.size < w1.heap.size) := Y1.out.lt
  have LT2 : Hid (w1.heap.size ≤ w2.heap.size) := hb.size
  clear hp hb Y1
  have y0 := Y2.out.c0
  have y1 := Y2.out.c1
  have f0 : w2.frozen? ⟨w.heap.size, 0, none⟩ = false := free_at Y2.out 0
  have f1 : w2.frozen? ⟨w.heap.size, 1, none⟩ = false := free_at Y2.out 1
  by_cases h0 : C = 0
  · have EC : Hid (S' = S) := HS1.out h0
    subst h0
    clear HS1 HS2 HD0
    have HR : Hid (((w2.setCell ⟨w.heap.size, 0, none⟩ (.slice sa S.length sc)).setCell ⟨w.heap.size, 1, none⟩ (.slice a2 D.length c2)).heap[w.heap.size]? = some (.cells #[.slice sa S.length sc, .slice a2 D.length c2] 26 (0, 0))) := arr_stored Y2.out
    go_wp2
    refine bodyPost_ret (results_arr_tmp Try.results84 _ _ w.heap.size _ _ rfl HR.out) rfl ?_
    refine ⟨_, rfl, ?_, below_setCell (below_setCell HB2.out (Nat.le_refl _) _ _) (Nat.le_refl _) _ _⟩
    rw [EC.out]
    have L1 := LT.out
    have L2 := LT2.out
    have L3 := HBE.out
    have p1 : Piece B E w2 (.slice sa S.length sc) S := HS.out.belowC HB2.out L3.2
    have p1' := (p1.win (win_setCell w2 w.heap.size 0 (.slice sa S.length sc)) (.inl L3.2)).win (win_setCell _ w.heap.size 1 (.slice a2 D.length c2)) (.inl L3.2)
    have p2' := (HP2.out.win (win_setCell w2 w.heap.size 0 (.slice sa S.length sc)) (.inr (by omega))).win (win_setCell _ w.heap.size 1 (.slice a2 D.length c2)) (.inr (by omega))
    exact ⟨_, _, rfl, p1'.mono (Nat.le_refl _) (by simp only [size_setCell]; omega), p2'.mono (by omega) (by simp only [size_setCell]; omega), p1'.apart p2' (.inl (by omega))⟩
  · have hne : (C != 0) = true := by simpa using h0
    have ED : Hid (D = []) := HD0.out h0
    have EC : Hid (S' = []) := HS2.out h0
    clear h0
    have HR : Hid (((w2.setCell ⟨w.heap.size, 0, none⟩ (.slice none 0 0)).setCell ⟨w.heap.size, 1, none⟩ (.slice none 0 0)).heap[w.heap.size]? = some (.cells #[.slice none 0 0, .slice none 0 0] 26 (0, 0))) := arr_stored Y2.out
    go_wp2
    refine bodyPost_ret (results_arr_tmp Try.results84 _ _ w.heap.size _ _ rfl HR.out) rfl ?_
    refine ⟨_, rfl, ?_, below_setCell (below_setCell HB2.out (Nat.le_refl _) _ _) (Nat.le_refl _) _ _⟩
    rw [EC.out, ED.out]
    exact arr_zero _ _ _
/-- A list of one array, of two, in a block of its own. -/
theorem arrs_one {W : World} {o : Nat} {x y : Value} {t : TypeId} {s d : List Int} (hb : Box W o x y t) (h : ArrI W (.agg #[x, y]) s d) : ArrsI W (.slice (some ⟨o, 0, none⟩) 1 1) [s, d] := by
  obtain ⟨a, c, b, e, e', i1, i2, g1, g2⟩ := h
  obtain ⟨rfl, rfl⟩ : x = .slice a s.length c ∧ y = .slice b d.length e := by cases e'; exact ⟨rfl, rfl⟩
  refine ⟨_, 1, 1, rfl, rfl, .inr ⟨o, 0, [.slice a s.length c, .slice b d.length e], rfl, hb.lt, rfl, fun j hj => ?_⟩⟩
  match j, hj with
  | 0, _ => exact ⟨hb.c0, a, c, rfl, g1, i1⟩
  | 1, _ => exact ⟨hb.c1, b, e, rfl, g2, i2⟩
theorem arrs_two {W : World} {o : Nat} {x y x' y' : Value} {t : TypeId} {s d s' d' : List Int} (hb : W.heap[o]? = some (.cells #[x, y, x', y'] t (0, 0))) (h : ArrI W (.agg #[x, y]) s d) (k : ArrI W (.agg #[x', y']) s' d') : ArrsI W (.slice (some ⟨o, 0, none⟩) 2 2) [s, d, s', d'] := by
  obtain ⟨a, c, b, e, e', i1, i2, g1, g2⟩ := h
  obtain ⟨rfl, rfl⟩ : x = .slice a s.length c ∧ y = .slice b d.length e := by cases e'; exact ⟨rfl, rfl⟩
  obtain ⟨a', c', b', f', e', i3, i4, g3, g4⟩ := k
  obtain ⟨rfl, rfl⟩ : x' = .slice a' s'.length c' ∧ y' = .slice b' d'.length f' := by cases e'; exact ⟨rfl, rfl⟩
  refine ⟨_, 2, 2, rfl, rfl, .inr ⟨o, 0, [.slice a s.length c, .slice b d.length e, .slice a' s'.length c', .slice b' d'.length f'], rfl, lt_of_heapA hb, rfl, fun j hj => ?_⟩⟩
  match j, hj with
  | 0, _ => exact ⟨cell_at hb rfl, a, c, rfl, g1, i1⟩
  | 1, _ => exact ⟨cell_at hb rfl, b, e, rfl, g2, i2⟩
  | 2, _ => exact ⟨cell_at hb rfl, a', c', rfl, g3, i3⟩
  | 3, _ => exact ⟨cell_at hb rfl, b', f', rfl, g4, i4⟩
theorem numsAt_one (s d : List Int) (k : Nat) : numsAt [s, d] 1 k = [numOf s d k] := rfl
theorem numsAt_two (s d s' d' : List Int) (k : Nat) : numsAt [s, d, s', d'] 2 k = [numOf s d k, numOf s' d' k] := rfl
theorem numOf_at {s d : List Int} (ho : arrOk s d = true) {k : Nat} (hk : k < d.length) : numOf s d k = d.getD k 0 := by
  unfold numOf
  by_cases e : s = []
  · subst e
    have z := arrOk_size ho
    rw [sizeV_0'] at z
    rw [if_pos rfl]
    have : k = 0 := by omega
    rw [this]
  · rw [if_neg e]
end Go.Proofs.Ytbmkfmppcojcgaa
namespace Go.Proofs.Ytbmkfmppcojcgaa
open Go.RowKit
open Go.ChangeMaps (setBlock)
set_option linter.unusedVariables false
set_option linter.unusedSimpArgs false
theorem laidOutE : laidOutB Try.prog = true := by kernel_rfl
theorem rowE : (76 : TypeId) < Try.prog.types.size := of_decide_eq_true (by kernel_rfl)
theorem wideE : (match Try.prog.underlying 76 with | some (.array _ _) | some (.struct _) => true | _ => false) = true := by rw [Try.underlying76]
set_option maxRecDepth 20000 in
theorem lawE : WideMaps.KeyLaw Try.prog 76 := deep_law_laid laidOutE (m := 3) (by omega) rowE (by kernel_rfl) wideE
/-- A shape by value is a key. -/
theorem keyE {n x y z : Int} (hn : (Lit.int .i64 n).wf = true) (hx : (Lit.int .i64 x).wf = true) (hy : (Lit.int .i64 y).wf = true) (hz : (Lit.int .i64 z).wf = true) :
    ∃ l, keyOf Try.prog 76 (.agg #[.int .i64 n, .int .i64 x, .int .i64 y, .int .i64 z]) = some l := by
  have hk : Try.prog.keyType 76 = true := by kernel_rfl
  have c4 : Try.prog.cellsOf 76 = 4 := by kernel_rfl
  have c3 : Try.prog.cellsOf 74 = 3 := by kernel_rfl
  have c1 : Try.prog.cellsOf 3 = 1 := by kernel_rfl
  obtain ⟨d, hd⟩ : ∃ d, Try.prog.types.size + 1 = d + 1 + 1 + 1 := ⟨Try.prog.types.size - 2, by have h : (76 : Nat) < Try.prog.types.size := rowE; omega⟩
  have r3 : List.range 3 = [0, 1, 2] := by decide
  have hl : Try.prog.keyLits (d + 1 + 1 + 1) 76 [.int .i64 n, .int .i64 x, .int .i64 y, .int .i64 z] = some [.int .i64 n, .int .i64 x, .int .i64 y, .int .i64 z] := by
    simp [Program.keyLits, Try.underlying76, Try.underlying74, Try.underlying3, c4, c3, c1, r3, hn, hx, hy, hz]
  refine ⟨.string (keyBytes [.int .i64 n, .int .i64 x, .int .i64 y, .int .i64 z]), ?_⟩
  have hf : (Value.agg #[.int .i64 n, .int .i64 x, .int .i64 y, .int .i64 z]).formed Try.prog 76 = true := by simp [Value.formed, Try.underlying76, c4]
  have e : keyOf Try.prog 76 (.agg #[.int .i64 n, .int .i64 x, .int .i64 y, .int .i64 z]) = if (Try.prog.keyType 76 && (Value.agg #[.int .i64 n, .int .i64 x, .int .i64 y, .int .i64 z]).formed Try.prog 76) = true then (Try.prog.keyLits (Try.prog.types.size + 1) 76 [.int .i64 n, .int .i64 x, .int .i64 y, .int .i64 z]).map fun ls => .string (keyBytes ls) else none := by
    unfold keyOf
    rw [Try.underlying76]
    rfl
  rw [e, hk, hf, hd, hl]
  rfl
theorem find_nil {w : World} {K1 : Value} {l1 : Lit} (h1 : keyOf Try.prog 76 K1 = some l1) : (Instr.findKey 76 K1 []).run Try.prog w = .ok none w := by
  rcases lawE.find w h1 [] (by simp) with ⟨h, _⟩ | ⟨j, e, _, h, _⟩
  · exact h
  · simp at h
theorem find_one {w : World} {K1 : Value} {l1 : Lit} (h1 : keyOf Try.prog 76 K1 = some l1) (v : Value) (s : Nat) : (Instr.findKey 76 K1 [⟨K1, v, s⟩]).run Try.prog w = .ok (some (0, v)) w := by
  rcases lawE.find w h1 [⟨K1, v, s⟩] (by simpa using ⟨l1, h1⟩) with ⟨_, h⟩ | ⟨j, e, h, he, _⟩
  · simp at h
  · match j, he with
    | 0, he => simp at he; subst he; exact h
theorem find_other {w : World} {K1 : Value} {K2 : Value} {l1 : Lit} {l2 : Lit} (h1 : keyOf Try.prog 76 K1 = some l1) (h2 : keyOf Try.prog 76 K2 = some l2) (hne : K1 ≠ K2) (v : Value) (s : Nat) : (Instr.findKey 76 K2 [⟨K1, v, s⟩]).run Try.prog w = .ok none w := by
  rcases lawE.find w h2 [⟨K1, v, s⟩] (by simpa using ⟨l1, h1⟩) with ⟨h, _⟩ | ⟨j, e, _, he, hk⟩
  · exact h
  · match j, he with
    | 0, he => simp at he; subst he; exact absurd hk hne
theorem find_two {w : World} {K1 : Value} {K2 : Value} {l1 : Lit} {l2 : Lit} (h1 : keyOf Try.prog 76 K1 = some l1) (h2 : keyOf Try.prog 76 K2 = some l2) (hne : K1 ≠ K2) (v u : Value) (s t : Nat) : (Instr.findKey 76 K2 [⟨K1, v, s⟩, ⟨K2, u, t⟩]).run Try.prog w = .ok (some (1, u)) w := by
  rcases lawE.find w h2 [⟨K1, v, s⟩, ⟨K2, u, t⟩] (by simpa using ⟨⟨l1, h1⟩, l2, h2⟩) with ⟨_, h⟩ | ⟨j, e, h, he, hk⟩
  · simp at h
  · match j, he with
    | 0, he => simp at he; subst he; exact absurd hk hne
    | 1, he => simp at he; subst he; exact h
theorem zeroI (w : World) : (zeroValue 3).run Try.prog w = .ok (.int .i64 0) w := by kernel_rfl
theorem look_0 {w : World} {K1 : Value} {l1 : Lit} {b : Nat} (hb : w.heap[b]? = some (.map #[] 0)) (h1 : keyOf Try.prog 76 K1 = some l1) :
    (Instr.lookup 123 (.map (some b)) K1 false).run Try.prog w = .ok (.int .i64 0) w := by
  simp [Instr.lookup, run_underlying Try.underlying123, MapKept.run_getObj_map hb, lawE.check w true h1, find_nil h1, zeroI, Result.andThen]
theorem look_1 {w : World} {K1 : Value} {l1 : Lit} {b : Nat} {v : Value} {s c : Nat} (hb : w.heap[b]? = some (.map #[⟨K1, v, s⟩] c)) (h1 : keyOf Try.prog 76 K1 = some l1) :
    (Instr.lookup 123 (.map (some b)) K1 false).run Try.prog w = .ok v w := by
  simp [Instr.lookup, run_underlying Try.underlying123, MapKept.run_getObj_map hb, lawE.check w false h1, find_one h1, Result.andThen]
theorem look_other {w : World} {K1 : Value} {K2 : Value} {l1 : Lit} {l2 : Lit} {b : Nat} {v : Value} {s c : Nat} (hb : w.heap[b]? = some (.map #[⟨K1, v, s⟩] c)) (h1 : keyOf Try.prog 76 K1 = some l1) (h2 : keyOf Try.prog 76 K2 = some l2) (hne : K1 ≠ K2) :
    (Instr.lookup 123 (.map (some b)) K2 false).run Try.prog w = .ok (.int .i64 0) w := by
  simp [Instr.lookup, run_underlying Try.underlying123, MapKept.run_getObj_map hb, lawE.check w false h2, find_other h1 h2 hne, zeroI, Result.andThen]
theorem look_2 {w : World} {K1 : Value} {K2 : Value} {l1 : Lit} {l2 : Lit} {b : Nat} {v u : Value} {s t c : Nat} (hb : w.heap[b]? = some (.map #[⟨K1, v, s⟩, ⟨K2, u, t⟩] c)) (h1 : keyOf Try.prog 76 K1 = some l1) (h2 : keyOf Try.prog 76 K2 = some l2) (hne : K1 ≠ K2) :
    (Instr.lookup 123 (.map (some b)) K2 false).run Try.prog w = .ok u w := by
  simp [Instr.lookup, run_underlying Try.underlying123, MapKept.run_getObj_map hb, lawE.check w false h2, find_two h1 h2 hne, Result.andThen]
theorem entry_0 {w : World} {K1 : Value} {l1 : Lit} {b : Nat} (hb : w.heap[b]? = some (.map #[] 0)) (h1 : keyOf Try.prog 76 K1 = some l1) :
    (Instr.mapEntry 123 (.map (some b)) K1).run Try.prog w = .ok (.tuple #[.int .i64 0, .int .i64 0]) (setBlock w b (.map #[⟨K1, .int .i64 0, 0⟩] 1)) := by
  simp [Instr.mapEntry, run_underlying Try.underlying123, MapKept.run_getObj_map hb, lawE.check w false h1, find_nil h1, zeroI, MapKept.run_setObj_map _ hb, Result.andThen, setBlock, goInt]
theorem entry_1 {w : World} {K1 : Value} {l1 : Lit} {b : Nat} {v : Value} {c : Nat} (hb : w.heap[b]? = some (.map #[⟨K1, v, 0⟩] c)) (h1 : keyOf Try.prog 76 K1 = some l1) :
    (Instr.mapEntry 123 (.map (some b)) K1).run Try.prog w = .ok (.tuple #[v, .int .i64 0]) (setBlock w b (.map #[⟨K1, v, 0⟩] c)) := by
  simp [Instr.mapEntry, run_underlying Try.underlying123, MapKept.run_getObj_map hb, lawE.check w false h1, find_one h1, lawE.stays w h1, MapKept.run_setObj_map _ hb, Result.andThen, setBlock, goInt]
theorem entry_other {w : World} {K1 : Value} {K2 : Value} {l1 : Lit} {l2 : Lit} {b : Nat} {v : Value} {s : Nat} (hb : w.heap[b]? = some (.map #[⟨K1, v, s⟩] 1)) (h1 : keyOf Try.prog 76 K1 = some l1) (h2 : keyOf Try.prog 76 K2 = some l2) (hne : K1 ≠ K2) :
    (Instr.mapEntry 123 (.map (some b)) K2).run Try.prog w = .ok (.tuple #[.int .i64 0, .int .i64 1]) (setBlock w b (.map #[⟨K1, v, s⟩, ⟨K2, .int .i64 0, 1⟩] 2)) := by
  simp [Instr.mapEntry, run_underlying Try.underlying123, MapKept.run_getObj_map hb, lawE.check w false h2, find_other h1 h2 hne, zeroI, MapKept.run_setObj_map _ hb, Result.andThen, setBlock, goInt]
theorem store_1 {w : World} {K1 : Value} {b : Nat} {v : Value} {c : Nat} (u : Value) (hb : w.heap[b]? = some (.map #[⟨K1, v, 0⟩] c)) :
    (Instr.entryStore 123 (.map (some b)) (.int .i64 0) u).run Try.prog w = .ok () (setBlock w b (.map #[⟨K1, u, 0⟩] c)) := by
  simp [Instr.entryStore, MapKept.run_getObj_map hb, asInt, asIntOf, MapKept.run_setObj_map _ hb, Result.andThen, setBlock]
theorem store_2 {w : World} {K1 : Value} {K2 : Value} {b : Nat} {v v' : Value} {c : Nat} (u : Value) (hb : w.heap[b]? = some (.map #[⟨K1, v, 0⟩, ⟨K2, v', 1⟩] c)) :
    (Instr.entryStore 123 (.map (some b)) (.int .i64 1) u).run Try.prog w = .ok () (setBlock w b (.map #[⟨K1, v, 0⟩, ⟨K2, u, 1⟩] c)) := by
  simp [Instr.entryStore, List.findIdx?_cons, MapKept.run_getObj_map hb, asInt, asIntOf, MapKept.run_setObj_map _ hb, Result.andThen, setBlock]
end Go.Proofs.Ytbmkfmppcojcgaa
namespace Go.Proofs.Ytbmkfmppcojcgaa
open Go.RowKit
open Go.ChangeMaps (setBlock)
set_option linter.unusedVariables false
set_option linter.unusedSimpArgs false
theorem setBlock_at {w : World} {b : Nat} {o : Obj} (h : b < w.heap.size) : (setBlock w b o).heap[b]? = some o := by simp [setBlock, h]
theorem setBlock_but (w : World) (b : Nat) (o : Obj) : But b w (setBlock w b o) :=
  ⟨rfl, rfl, rfl, by simp [setBlock], fun k _ hk => by simp only [setBlock]; rw [Array.getElem?_setIfInBounds_ne (Ne.symm hk)]⟩
theorem lt_of_heap {w : World} {b : Nat} {o : Obj} (h : w.heap[b]? = some o) : b < w.heap.size := (Array.getElem?_eq_some_iff.1 h).1
theorem setBlock_size (w : World) (b : Nat) (o : Obj) : (setBlock w b o).heap.size = w.heap.size := by simp [setBlock]
theorem step_first {K1 : Value} {l1 : Lit} {b : Nat} (W : World) (hm : W.heap[b]? = some (.map #[] 0)) (h1 : keyOf Try.prog 76 K1 = some l1) :
    ∃ W1 W2, (Instr.lookup 123 (.map (some b)) K1 false).run Try.prog W = .ok (.int .i64 0) W ∧ (Instr.mapEntry 123 (.map (some b)) K1).run Try.prog W = .ok (.tuple #[.int .i64 0, .int .i64 0]) W1 ∧
      (Instr.lookup 123 (.map (some b)) K1 false).run Try.prog W1 = .ok (.int .i64 0) W1 ∧ (Instr.entryStore 123 (.map (some b)) (.int .i64 0) (.int .i64 1)).run Try.prog W1 = .ok () W2 ∧
      W2.heap[b]? = some (.map #[⟨K1, .int .i64 1, 0⟩] 1) ∧ But b W W2 ∧ W2.heap.size = W.heap.size := by
  have hb := lt_of_heap hm
  have q : (setBlock W b (.map #[⟨K1, .int .i64 0, 0⟩] 1)).heap[b]? = some (.map #[⟨K1, .int .i64 0, 0⟩] 1) := setBlock_at hb
  refine ⟨_, _, look_0 hm h1, entry_0 hm h1, look_1 q h1, store_1 (.int .i64 1) q, setBlock_at (by rw [setBlock_size]; exact hb), (setBlock_but _ _ _).trans (setBlock_but _ _ _), by rw [setBlock_size, setBlock_size]⟩
theorem step_same {K1 : Value} {l1 : Lit} {b : Nat} (W : World) (hm : W.heap[b]? = some (.map #[⟨K1, .int .i64 1, 0⟩] 1)) (h1 : keyOf Try.prog 76 K1 = some l1) :
    ∃ W1 W2, (Instr.lookup 123 (.map (some b)) K1 false).run Try.prog W = .ok (.int .i64 1) W ∧ (Instr.mapEntry 123 (.map (some b)) K1).run Try.prog W = .ok (.tuple #[.int .i64 1, .int .i64 0]) W1 ∧
      (Instr.lookup 123 (.map (some b)) K1 false).run Try.prog W1 = .ok (.int .i64 1) W1 ∧ (Instr.entryStore 123 (.map (some b)) (.int .i64 0) (.int .i64 2)).run Try.prog W1 = .ok () W2 ∧
      W2.heap[b]? = some (.map #[⟨K1, .int .i64 2, 0⟩] 1) ∧ But b W W2 := by
  have hb := lt_of_heap hm
  have q : (setBlock W b (.map #[⟨K1, .int .i64 1, 0⟩] 1)).heap[b]? = some (.map #[⟨K1, .int .i64 1, 0⟩] 1) := setBlock_at hb
  exact ⟨_, _, look_1 hm h1, entry_1 hm h1, look_1 q h1, store_1 (.int .i64 2) q, setBlock_at (by rw [setBlock_size]; exact hb), (setBlock_but _ _ _).trans (setBlock_but _ _ _)⟩
theorem step_other {K1 : Value} {K2 : Value} {l1 : Lit} {l2 : Lit} {b : Nat} (W : World) (hm : W.heap[b]? = some (.map #[⟨K1, .int .i64 1, 0⟩] 1)) (h1 : keyOf Try.prog 76 K1 = some l1) (h2 : keyOf Try.prog 76 K2 = some l2) (hne : K1 ≠ K2) :
    ∃ W1 W2, (Instr.lookup 123 (.map (some b)) K2 false).run Try.prog W = .ok (.int .i64 0) W ∧ (Instr.mapEntry 123 (.map (some b)) K2).run Try.prog W = .ok (.tuple #[.int .i64 0, .int .i64 1]) W1 ∧
      (Instr.lookup 123 (.map (some b)) K2 false).run Try.prog W1 = .ok (.int .i64 0) W1 ∧ (Instr.entryStore 123 (.map (some b)) (.int .i64 1) (.int .i64 1)).run Try.prog W1 = .ok () W2 ∧
      W2.heap[b]? = some (.map #[⟨K1, .int .i64 1, 0⟩, ⟨K2, .int .i64 1, 1⟩] 2) ∧ But b W W2 := by
  have hb := lt_of_heap hm
  have q : (setBlock W b (.map #[⟨K1, .int .i64 1, 0⟩, ⟨K2, .int .i64 0, 1⟩] 2)).heap[b]? = some (.map #[⟨K1, .int .i64 1, 0⟩, ⟨K2, .int .i64 0, 1⟩] 2) := setBlock_at hb
  exact ⟨_, _, look_other hm h1 h2 hne, entry_other hm h1 h2 hne, look_2 q h1 h2 hne, store_2 (.int .i64 1) q, setBlock_at (by rw [setBlock_size]; exact hb), (setBlock_but _ _ _).trans (setBlock_but _ _ _)⟩
theorem len_map {b : Nat} {W : World} {es : Array MapEntry} {c : Nat} (ty : TypeId) (hm : W.heap[b]? = some (.map es c)) : (Builtin.len_ #[123] ty #[.map (some b)]).run Try.prog W = .ok (.int .i64 es.size) W := by
  simp [Builtin.len_, Builtin.lenOf, MapKept.run_getObj_map hm, run_underlying Try.underlying123, goInt, Result.andThen]
set_option maxRecDepth 20000 in
set_option maxHeartbeats 4000000 in
theorem alike_one (n x y z : Int) (g : Nat) (w : World) (l1 : Lit)
    (h1 : keyOf Try.prog 76 (.agg #[.int .i64 n, .int .i64 x, .int .i64 y, .int .i64 z]) = some l1)
    (hg : g < w.heap.size)
    (c0 : w.cell? ⟨g, 0, none⟩ = some (.int .i64 n)) (c1 : w.cell? ⟨g, 1, none⟩ = some (.int .i64 x)) (c2 : w.cell? ⟨g, 2, none⟩ = some (.int .i64 y)) (c3 : w.cell? ⟨g, 3, none⟩ = some (.int .i64 z)) (c4 : w.cell? ⟨g, 4, none⟩ = some (.int .i64 n)) (c5 : w.cell? ⟨g, 5, none⟩ = some (.int .i64 x)) (c6 : w.cell? ⟨g, 6, none⟩ = some (.int .i64 y)) (c7 : w.cell? ⟨g, 7, none⟩ = some (.int .i64 z)) :
    Calls Try.prog 121 #[.slice (some ⟨g, 0, none⟩) 2 2] w fun e w' => e = .returned (.bool true) ∧ Below w.heap.size w w' := by
  have K1 : Hid (keyOf Try.prog 76 (.agg #[.int .i64 n, .int .i64 x, .int .i64 y, .int .i64 z]) = some l1) := h1
  clear h1
  have hmm := @run_makeMap Try.prog
  go_enter Try.func121, Try.ntmps121
  go_wp2
  refine wp_loop_rounds 3 ?_
  rw [rounds_succ]
  go_wp2
  generalize hW : World.alloc (World.alloc w (.map #[] 0)) (.cells #[.int .i64 n, .int .i64 x, .int .i64 y, .int .i64 z] 76) = W
  have HB : Hid (Below w.heap.size w W) := by rw [← hW]; exact bAlloc (bAlloc (Below.refl _ _) _) _
  have hm : W.heap[w.heap.size]? = some (.map #[] 0) := by rw [← hW]; exact heap_alloc2_old w _ _
  have e0 : W.cell? ⟨w.heap.size + 1, 0, none⟩ = some (.int .i64 n) := by rw [← hW]; simp
  have e1 : W.cell? ⟨w.heap.size + 1, 1, none⟩ = some (.int .i64 x) := by rw [← hW]; simp
  have e2 : W.cell? ⟨w.heap.size + 1, 2, none⟩ = some (.int .i64 y) := by rw [← hW]; simp
  have e3 : W.cell? ⟨w.heap.size + 1, 3, none⟩ = some (.int .i64 z) := by rw [← hW]; simp
  clear hW
  obtain ⟨W1, W2, f1, f2, f3, f4, m2, hbut, hsz⟩ := step_first (b := w.heap.size) W.drew hm K1.out
  have M2 : Hid (W2.heap[w.heap.size]? = some (.map #[⟨.agg #[.int .i64 n, .int .i64 x, .int .i64 y, .int .i64 z], .int .i64 1, 0⟩] 1)) := m2
  have HB2 : Hid (Below w.heap.size w W2) := (HB.out.drew).trans (hbut.below (Nat.le_refl _) HB.out.size)
  clear m2 hbut hsz
  go_region
  clear f1 f2 f3 f4 hm e0 e1 e2 e3 c0 c1 c2 c3
  clear W1 HB W
  have d4 : W2.cell? ⟨g, 4, none⟩ = some (.int .i64 n) := by rw [HB2.out.cell (p := ⟨g, 4, none⟩) hg]; exact c4
  have d5 : W2.cell? ⟨g, 5, none⟩ = some (.int .i64 x) := by rw [HB2.out.cell (p := ⟨g, 5, none⟩) hg]; exact c5
  have d6 : W2.cell? ⟨g, 6, none⟩ = some (.int .i64 y) := by rw [HB2.out.cell (p := ⟨g, 6, none⟩) hg]; exact c6
  have d7 : W2.cell? ⟨g, 7, none⟩ = some (.int .i64 z) := by rw [HB2.out.cell (p := ⟨g, 7, none⟩) hg]; exact c7
  clear c4 c5 c6 c7
  go_wp2
  rw [rounds_succ]
  go_wp2
  generalize hW : World.alloc W2 (.cells #[.int .i64 n, .int .i64 x, .int .i64 y, .int .i64 z] 76) = W
  have HB : Hid (Below w.heap.size w W) := by rw [← hW]; exact bAlloc HB2.out _
  have hm : W.heap[w.heap.size]? = some (.map #[⟨.agg #[.int .i64 n, .int .i64 x, .int .i64 y, .int .i64 z], .int .i64 1, 0⟩] 1) := by rw [← hW, heap_alloc_old _ _ (lt_of_heap M2.out)]; exact M2.out
  have e0 : W.cell? ⟨W2.heap.size, 0, none⟩ = some (.int .i64 n) := by rw [← hW]; exact cell_new _ _ _ rfl
  have e1 : W.cell? ⟨W2.heap.size, 1, none⟩ = some (.int .i64 x) := by rw [← hW]; exact cell_new _ _ _ rfl
  have e2 : W.cell? ⟨W2.heap.size, 2, none⟩ = some (.int .i64 y) := by rw [← hW]; exact cell_new _ _ _ rfl
  have e3 : W.cell? ⟨W2.heap.size, 3, none⟩ = some (.int .i64 z) := by rw [← hW]; exact cell_new _ _ _ rfl
  clear hW d4 d5 d6 d7
  obtain ⟨W3, W4, f1, f2, f3, f4, m4, hbut⟩ := step_same (b := w.heap.size) W.drew hm K1.out
  have HB4 : Hid (Below w.heap.size w W4) := (HB.out.drew).trans (hbut.below (Nat.le_refl _) HB.out.size)
  have hlen : ∀ ty, (Builtin.len_ #[123] ty #[.map (some w.heap.size)]).run Try.prog W4 = .ok (.int .i64 1) W4 := fun ty => len_map ty m4
  clear m4 hbut
  go_region
  clear f1 f2 f3 f4 hm e0 e1 e2 e3
  go_wp2
  rw [rounds_succ]
  go_wp2
  go_ret
  exact ⟨rfl, HB4.out⟩
set_option maxRecDepth 20000 in
set_option maxHeartbeats 4000000 in
theorem alike_two (n x y z n' x' y' z' : Int) (g : Nat) (w : World) (l1 l2 : Lit)
    (h1 : keyOf Try.prog 76 (.agg #[.int .i64 n, .int .i64 x, .int .i64 y, .int .i64 z]) = some l1) (h2 : keyOf Try.prog 76 (.agg #[.int .i64 n', .int .i64 x', .int .i64 y', .int .i64 z']) = some l2)
    (hg : g < w.heap.size)
    (c0 : w.cell? ⟨g, 0, none⟩ = some (.int .i64 n)) (c1 : w.cell? ⟨g, 1, none⟩ = some (.int .i64 x)) (c2 : w.cell? ⟨g, 2, none⟩ = some (.int .i64 y)) (c3 : w.cell? ⟨g, 3, none⟩ = some (.int .i64 z)) (c4 : w.cell? ⟨g, 4, none⟩ = some (.int .i64 n')) (c5 : w.cell? ⟨g, 5, none⟩ = some (.int .i64 x')) (c6 : w.cell? ⟨g, 6, none⟩ = some (.int .i64 y')) (c7 : w.cell? ⟨g, 7, none⟩ = some (.int .i64 z'))
    (hne : (Value.agg #[.int .i64 n, .int .i64 x, .int .i64 y, .int .i64 z]) ≠ .agg #[.int .i64 n', .int .i64 x', .int .i64 y', .int .i64 z']) :
    Calls Try.prog 121 #[.slice (some ⟨g, 0, none⟩) 2 2] w fun e w' => e = .returned (.bool false) ∧ Below w.heap.size w w' := by
  have K1 : Hid (keyOf Try.prog 76 (.agg #[.int .i64 n, .int .i64 x, .int .i64 y, .int .i64 z]) = some l1) := h1
  have K2 : Hid (keyOf Try.prog 76 (.agg #[.int .i64 n', .int .i64 x', .int .i64 y', .int .i64 z']) = some l2) := h2
  have NE : Hid ((Value.agg #[.int .i64 n, .int .i64 x, .int .i64 y, .int .i64 z]) ≠ .agg #[.int .i64 n', .int .i64 x', .int .i64 y', .int .i64 z']) := hne
  clear h1 h2 hne
  have hmm := @run_makeMap Try.prog
  go_enter Try.func121, Try.ntmps121
  go_wp2
  refine wp_loop_rounds 3 ?_
  rw [rounds_succ]
  go_wp2
  generalize hW : World.alloc (World.alloc w (.map #[] 0)) (.cells #[.int .i64 n, .int .i64 x, .int .i64 y, .int .i64 z] 76) = W
  have HB : Hid (Below w.heap.size w W) := by rw [← hW]; exact bAlloc (bAlloc (Below.refl _ _) _) _
  have hm : W.heap[w.heap.size]? = some (.map #[] 0) := by rw [← hW]; exact heap_alloc2_old w _ _
  have e0 : W.cell? ⟨w.heap.size + 1, 0, none⟩ = some (.int .i64 n) := by rw [← hW]; simp
  have e1 : W.cell? ⟨w.heap.size + 1, 1, none⟩ = some (.int .i64 x) := by rw [← hW]; simp
  have e2 : W.cell? ⟨w.heap.size + 1, 2, none⟩ = some (.int .i64 y) := by rw [← hW]; simp
  have e3 : W.cell? ⟨w.heap.size + 1, 3, none⟩ = some (.int .i64 z) := by rw [← hW]; simp
  clear hW
  obtain ⟨W1, W2, f1, f2, f3, f4, m2, hbut, hsz⟩ := step_first (b := w.heap.size) W.drew hm K1.out
  have M2 : Hid (W2.heap[w.heap.size]? = some (.map #[⟨.agg #[.int .i64 n, .int .i64 x, .int .i64 y, .int .i64 z], .int .i64 1, 0⟩] 1)) := m2
  have HB2 : Hid (Below w.heap.size w W2) := (HB.out.drew).trans (hbut.below (Nat.le_refl _) HB.out.size)
  clear m2 hbut hsz
  go_region
  clear f1 f2 f3 f4 hm e0 e1 e2 e3 c0 c1 c2 c3
  clear W1 HB W
  have d4 : W2.cell? ⟨g, 4, none⟩ = some (.int .i64 n') := by rw [HB2.out.cell (p := ⟨g, 4, none⟩) hg]; exact c4
  have d5 : W2.cell? ⟨g, 5, none⟩ = some (.int .i64 x') := by rw [HB2.out.cell (p := ⟨g, 5, none⟩) hg]; exact c5
  have d6 : W2.cell? ⟨g, 6, none⟩ = some (.int .i64 y') := by rw [HB2.out.cell (p := ⟨g, 6, none⟩) hg]; exact c6
  have d7 : W2.cell? ⟨g, 7, none⟩ = some (.int .i64 z') := by rw [HB2.out.cell (p := ⟨g, 7, none⟩) hg]; exact c7
  clear c4 c5 c6 c7
  go_wp2
  rw [rounds_succ]
  go_wp2
  generalize hW : World.alloc W2 (.cells #[.int .i64 n', .int .i64 x', .int .i64 y', .int .i64 z'] 76) = W
  have HB : Hid (Below w.heap.size w W) := by rw [← hW]; exact bAlloc HB2.out _
  have hm : W.heap[w.heap.size]? = some (.map #[⟨.agg #[.int .i64 n, .int .i64 x, .int .i64 y, .int .i64 z], .int .i64 1, 0⟩] 1) := by rw [← hW, heap_alloc_old _ _ (lt_of_heap M2.out)]; exact M2.out
  have e0 : W.cell? ⟨W2.heap.size, 0, none⟩ = some (.int .i64 n') := by rw [← hW]; exact cell_new _ _ _ rfl
  have e1 : W.cell? ⟨W2.heap.size, 1, none⟩ = some (.int .i64 x') := by rw [← hW]; exact cell_new _ _ _ rfl
  have e2 : W.cell? ⟨W2.heap.size, 2, none⟩ = some (.int .i64 y') := by rw [← hW]; exact cell_new _ _ _ rfl
  have e3 : W.cell? ⟨W2.heap.size, 3, none⟩ = some (.int .i64 z') := by rw [← hW]; exact cell_new _ _ _ rfl
  clear hW d4 d5 d6 d7
  obtain ⟨W3, W4, f1, f2, f3, f4, m4, hbut⟩ := step_other (b := w.heap.size) W.drew hm K1.out K2.out NE.out
  have HB4 : Hid (Below w.heap.size w W4) := (HB.out.drew).trans (hbut.below (Nat.le_refl _) HB.out.size)
  have hlen : ∀ ty, (Builtin.len_ #[123] ty #[.map (some w.heap.size)]).run Try.prog W4 = .ok (.int .i64 2) W4 := fun ty => len_map ty m4
  clear m4 hbut
  go_region
  clear f1 f2 f3 f4 hm e0 e1 e2 e3
  go_wp2
  rw [rounds_succ]
  go_wp2
  go_ret
  exact ⟨rfl, HB4.out⟩
end Go.Proofs.Ytbmkfmppcojcgaa
