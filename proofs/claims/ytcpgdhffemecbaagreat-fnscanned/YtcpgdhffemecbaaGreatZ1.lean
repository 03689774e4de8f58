/-
  Several walks, one behind the other: ScanN, Grow, SpecMake4, RowsO, SpecRed, SpecArr2, SpecMake1, SpecMake5, SpecMake2, SpecMake6, Cuts, SpecScan, ImplArr1, ImplArr2, ImplPlace, ImplShape, ImplArr3, ImplMake1, MakeQ, ReduceN, ImplRows1, ImplRows2, ImplRows3, ImplRed1, ImplBack, ImplRed2, Ones, Twos.
-/
import Derived.Test.YtcpgdhffemecbaaGreatReduceM
import Derived.Test.YtcpgdhffemecbaaGreatMakeP
import Derived.Test.YtcpgdhffemecbaaGreatAppend
import Derived.Test.YtcpgdhffemecbaaGreatLaw3
import Derived.Deep.Upon
import Derived.Maps.AppendAt
import Derived.Deep.AppendLies
import Derived.Deep.RegionLaw
import Derived.Test.YtcpgdhffemecbaaGreatMakeM
import Derived.Test.YtcpgdhffemecbaaGreatArrs
import Derived.Test.YtcpgdhffemecbaaGreatSpecRows2
import Derived.Test.YtcpgdhffemecbaaGreatSpecCopy
import Derived.Test.YtcpgdhffemecbaaGreatSpecEach2b
import Derived.Deep.Cut
import Derived.Deep.CutRange
import Derived.Deep.LoopGhost
import Derived.Deep.RegionHeld3
import Derived.Test.YtcpgdhffemecbaaGreatSpecArr
import Derived.OwnWalk
import Derived.Laws.ResultCell
import Derived.Test.YtcpgdhffemecbaaGreatArrM
import Derived.Test.YtcpgdhffemecbaaGreatArr
import Derived.Test.YtcpgdhffemecbaaGreatNumOk
import Derived.Test.YtcpgdhffemecbaaGreatImplShape0
import Derived.Laws.StructEq
import Derived.Test.YtcpgdhffemecbaaGreatEachP
import Derived.RangeFuncNested
import Derived.RangeFuncBound
import Derived.RangeFuncCalls
import Derived.RangeFuncLeaves
import Derived.Shelf.Abstract
import Derived.Shelf.RegionOpen
import Derived.WalkKit
import Derived.OwnWalkIn
import Derived.TacticsInMore
import Derived.LoopNIn
import Derived.LoopIn
import Derived.Test.YtcpgdhffemecbaaGreatRowsI
import Derived.RangeFuncBox
import Derived.Test.YtcpgdhffemecbaaGreatSmall
import Derived.Laws.Tables
namespace Go.Proofs.YtcpgdhffemecbaaGreat
set_option linter.unusedVariables false
theorem flat_atR {N : Nat} {g : Nat → List Int} (k : Nat) : ∀ n, k < n → (∀ i, i < n → (g i).length = N) → (((List.range n).flatMap g).drop (k * N)).take N = g k ∧ ((List.range n).flatMap g).length = n * N := by
  intro n
  induction n with
  | zero => intro h; omega
  | succ n ih =>
    intro hk hl
    have hlen : ∀ m, m ≤ n + 1 → ((List.range m).flatMap g).length = m * N := by
      intro m
      induction m with
      | zero => intro _; simp
      | succ m im => intro hm; rw [List.range_succ, List.flatMap_append, List.length_append, im (by omega)]; simp [hl m (by omega), Nat.succ_mul]
    refine ⟨?_, hlen _ (Nat.le_refl _)⟩
    have hn := hlen n (by omega)
    rw [List.range_succ, List.flatMap_append]
    by_cases e : k < n
    · have q := (ih e (fun i hi => hl i (by omega))).1
      have hle : k * N + N ≤ n * N := by
        have : (k + 1) * N ≤ n * N := Nat.mul_le_mul_right _ (by omega)
        rw [Nat.succ_mul] at this; exact this
      rw [List.drop_append_of_le_length (by omega), List.take_append_of_le_length (by rw [List.length_drop]; omega)]
      exact q
    · obtain rfl : k = n := by omega
      rw [List.drop_append, List.drop_of_length_le (by omega), hn, Nat.sub_self]
      simp
      exact List.take_of_length_le (by rw [hl k (by omega)]; exact Nat.le_refl _)
theorem beg_facts {n0 : Int} {t d : List Int} (ho : arrOk (n0 :: t) d = true) {k : Nat} (hk : k < n0.toNat) :
    0 ≤ sizeV (((k + 1 : Nat) : Int) :: t) ∧ arrOk (((k + 1 : Nat) : Int) :: t) (chosenD (n0 :: t) d (fun j => 0 + (j : Int)) (k + 1)) = true ∧ rowsD (((k + 1 : Nat) : Int) :: t) (chosenD (n0 :: t) d (fun j => 0 + (j : Int)) (k + 1)) = (rowsD (n0 :: t) d).take (k + 1) := by
  have hh := head_bd ho
  simp only [List.getD_cons_zero] at hh
  obtain ⟨p0, p1, p2⟩ := tail_size ho (by omega)
  obtain ⟨N, hN⟩ : ∃ N : Nat, sizeV t = N := ⟨(sizeV t).toNat, by omega⟩
  obtain ⟨k1, k2, k3, k4⟩ := sizeV_ok (arrOk_shape ho)
  have hz := arrOk_size ho
  rw [prodV_cons] at k3 k4
  simp only [List.all_cons, Bool.and_eq_true] at k2
  have q0 := (prodV_bd t k2.2).1
  have eN : ∀ z : Int, rowN (z :: t) = N := fun z => by simp [rowN, hN]
  have eP : sizeV t = prodV t := (sizeV_ok p0).2.2.2
  have hle : ((k : Int) + 1) * prodV t ≤ n0 * prodV t := Int.mul_le_mul_of_nonneg_right (by omega) q0
  have hS : sizeV (((k + 1 : Nat) : Int) :: t) = ((k : Int) + 1) * prodV t := by
    unfold sizeV
    have e1 : ¬ 3 < (((k + 1 : Nat) : Int) :: t).length := by simp at k1 ⊢; omega
    have e2 : (((k + 1 : Nat) : Int) :: t).all dimOk = true := by
      simp only [List.all_cons, Bool.and_eq_true]
      refine ⟨?_, k2.2⟩
      unfold dimOk
      simp
      omega
    have e3 : prodV (((k + 1 : Nat) : Int) :: t) = ((k : Int) + 1) * prodV t := by rw [prodV_cons]; simp
    rw [if_neg e1, if_pos e2, e3, if_neg (by omega)]
  have hrl : ∀ i, i < k + 1 → (rowAt (n0 :: t) d i).length = N := fun i hi => by
    have q := rowAt_length ho (by simp) (i := i) (by simp [rowsN]; omega)
    rw [q, eN]
  have hX : chosenD (n0 :: t) d (fun j => 0 + (j : Int)) (k + 1) = (List.range (k + 1)).flatMap (fun i => rowAt (n0 :: t) d i) := by
    unfold chosenD
    rw [List.flatMap_def, List.flatMap_def]
    congr 1
    apply List.map_congr_left
    intro i hi
    have hi2 : i < k + 1 := by simpa using hi
    unfold chosenRow
    rw [if_pos (by simp; omega)]
    simp
  have hlen := (flat_atR (N := N) (g := fun i => rowAt (n0 :: t) d i) 0 (k + 1) (by omega) hrl).2
  rw [hX]
  refine ⟨by rw [hS]; exact Int.mul_nonneg (by omega) q0, ?_, ?_⟩
  · simp only [arrOk, Bool.and_eq_true, decide_eq_true_eq, List.all_eq_true] at ho ⊢
    refine ⟨by rw [hS, hlen, ← eP, hN]; simp, fun x hx => ?_⟩
    obtain ⟨i, _, hx2⟩ := List.mem_flatMap.1 hx
    exact ho.2 x (List.mem_of_mem_drop (List.mem_of_mem_take hx2))
  · have e : rowsN (((k + 1 : Nat) : Int) :: t) = k + 1 := by simp [rowsN]
    apply List.ext_getElem
    · rw [rowsD_len, List.length_take, rowsD_len, e]
      simp [rowsN]
      omega
    · intro i h1 h2
      have hi : i < k + 1 := by rw [rowsD_len, e] at h1; exact h1
      have q1 := rowsD_at (((k + 1 : Nat) : Int) :: t) ((List.range (k + 1)).flatMap (fun i => rowAt (n0 :: t) d i)) (i := i) (by rw [e]; exact hi)
      have q2 := rowsD_at (n0 :: t) d (i := i) (by simp [rowsN]; omega)
      have q3 := take_getD (R := rowsD (n0 :: t) d) (k := k + 1) (i := i) h2
      have g1 : (rowsD (((k + 1 : Nat) : Int) :: t) ((List.range (k + 1)).flatMap (fun i => rowAt (n0 :: t) d i)))[i] = (rowsD (((k + 1 : Nat) : Int) :: t) ((List.range (k + 1)).flatMap (fun i => rowAt (n0 :: t) d i))).getD i [] := by simp only [List.getD, List.getElem?_eq_getElem h1, Option.getD_some]
      have g2 : ((rowsD (n0 :: t) d).take (k + 1))[i] = ((rowsD (n0 :: t) d).take (k + 1)).getD i [] := by simp only [List.getD, List.getElem?_eq_getElem h2, Option.getD_some]
      rw [g1, g2, q1, q3, q2]
      have q4 := (flat_atR (N := N) (g := fun i => rowAt (n0 :: t) d i) i (k + 1) hi hrl).1
      refine Eq.trans ?_ q4
      show (List.drop (i * rowN (((k + 1 : Nat) : Int) :: t)) _).take (rowN (((k + 1 : Nat) : Int) :: t)) = _
      rw [eN]
end Go.Proofs.YtcpgdhffemecbaaGreat
namespace Go.Proofs.YtcpgdhffemecbaaGreat
open Go.RowKit
set_option linter.unusedVariables false
set_option linter.unusedSimpArgs false
theorem ints_news {w : World} {b off : Nat} {l : List Int} (h : ∀ k, k < l.length → w.cell? ⟨b, off + k, none⟩ = some (.int .i64 (l.getD k 0))) : ∀ (j : Nat) (v : Value), (l.map (Value.int .i64))[j]? = some v → w.cell? ((⟨b, off, none⟩ : Addr).add j) = some v := by
  intro j v hv
  rw [List.getElem?_map] at hv
  cases hx : l[j]? with
  | none => rw [hx] at hv; cases hv
  | some x =>
    rw [hx] at hv
    obtain ⟨hj, rfl⟩ := List.getElem?_eq_some_iff.1 hx
    have e : (⟨b, off, none⟩ : Addr).add j = ⟨b, off + j, none⟩ := by unfold Addr.add; split <;> simp_all
    rw [e, h j hj]
    simpa [hj] using hv
theorem grown_below {B : Nat} {w w' : World} {row : Option Nat} (hg : w.grownBy w' row) (hr : ∀ k, row = some k → B ≤ k) (hB : B ≤ w.heap.size) : Below B w w' :=
  ⟨hg.os, hg.tape, hg.output, hg.size, fun k hk => hg.block k (by omega) (fun e => by have := hr k e.symm; omega)⟩
/-- Growing by a list. -/
theorem growL {B : Nat} {w : World} {v : Value} {l m : List Int} {a : Option Addr} (h : NewInts B w v l) (hm : Ints w a m) (hB : B ≤ w.heap.size) (hl : l.length + m.length ≤ 1048576) (c : Nat) :
    ∃ a' c' w', (Builtin.append_ #[24, 24] 24 #[v, .slice a m.length c]).run Tryz.prog w = .ok (.slice a' (l ++ m).length c') w' ∧ NewInts B w' (.slice a' (l ++ m).length c') (l ++ m) ∧ Below B w w' := by
  obtain ⟨i, hq, z1, z2, z3⟩ : ∃ i, Tryz.prog.info? 3 = some i ∧ i.zero = some (.int .i64 0) ∧ i.size = 1 ∧ i.bytes = 8 := by
    have hi := info_int
    cases hq : Tryz.prog.info? 3 with
    | none => rw [hq] at hi; cases hi
    | some i => rw [hq] at hi; simp at hi; exact ⟨i, rfl, hi.1, hi.2.1, hi.2.2⟩
  cases a with
  | none =>
    obtain rfl : m = [] := by
      rcases hm with h | ⟨b, off, e, _⟩
      · exact h
      · cases e
    obtain ⟨base, cap, rfl, hle⟩ : ∃ base cap, v = .slice base l.length cap ∧ l.length ≤ cap := by
      rcases h.2 with ⟨e, h0⟩ | ⟨g, cap, cur, e, _, _, hle, _⟩
      · exact ⟨none, 0, by rw [e, h0], by omega⟩
      · exact ⟨_, cap, e, hle⟩
    refine ⟨base, cap, w, ?_, by simpa using h, Below.refl _ _⟩
    have := run_append_nothing (P := Tryz.prog) w 24 24 24 3 i Tryz.underlying24 hq base l.length cap hle (.slice none 0 c) (by rw [z2]; exact Src.ofNil w Tryz.underlying24 c)
    simpa using this
  | some ad =>
    have hn : ∀ (j : Nat) (u : Value), (m.map (Value.int .i64))[j]? = some u → w.cell? (ad.add j) = some u := by
      rcases hm with rfl | ⟨b, off, e, _, hc⟩
      · intro j u hu; simp at hu
      · cases e; exact ints_news hc
    obtain ⟨v', w', hr, h2, h3, _, _⟩ := run_append_own_at (P := Tryz.prog) w B 24 24 3 i (.int .i64 0) 1 8 Tryz.underlying24 hq z1 z2 z3 rfl (by decide) v l.length (l.map (Value.int .i64)) h ad m.length c (m.map (Value.int .i64)) (by simp) hn (by intro u hu; obtain ⟨x, _, rfl⟩ := List.mem_map.1 hu; rfl) (by unfold maxLen; omega) (by omega) hB
    have h2' : NewInts B w' v' (l ++ m) := by
      show World.ownsRow _ _ _ _ _ _ _
      simpa using h2
    obtain ⟨a', c', rfl, _⟩ := h2'.ints
    exact ⟨a', c', w', hr, h2', grown_below h3 h.row hB⟩
/-- Growing by one number, which lies in a block of its own. -/
theorem grow1 {B : Nat} {w : World} {v : Value} {l : List Int} (x : Int) (h : NewInts B w v l) (hB : B ≤ w.heap.size) (hl : l.length < 1048576) :
    ∃ a' c' w', (Builtin.append_ #[24, 24] 24 #[v, .slice (some ⟨w.heap.size, 0, none⟩) 1 1]).run Tryz.prog (w.alloc (.cells #[.int .i64 x] 3)) = .ok (.slice a' (l.length + 1) c') w' ∧ NewInts B w' (.slice a' (l.length + 1) c') (l ++ [x]) ∧ Below B w w' := by
  obtain ⟨a', c', w', hr, h2, h3⟩ := growL (ownsRow_keep h (bAlloc (Below.refl _ _) (.cells #[.int .i64 x] 3))) (ints_new w [x] 3) (by simp; omega) (by simp; omega) 1
  refine ⟨a', c', w', by simpa using hr, by simpa using h2, ?_⟩
  have := (bAlloc (Below.refl w.heap.size w) (.cells #[.int .i64 x] 3)).mono hB
  exact this.trans h3
theorem NewInts.keep {B : Nat} {w w' : World} {v : Value} {l : List Int} (h : NewInts B w v l) (hb : Below w.heap.size w w') : NewInts B w' v l := ownsRow_keep h hb
theorem NewInts.nil (B : Nat) (w : World) : NewInts B w (.slice none 0 0) [] := ⟨rfl, .inl ⟨rfl, rfl⟩⟩
/-- An append whose run is known, at the operation's own type. -/
theorem wpList_append_ty {P : Program} {w w' : World} {ops : Array Oper} {rest : List Oper} {o : Oper} {a : Act} {Q : Exit → Act → World → Prop} (hgd : o.guard = none) (d s : Operand) (dT sT : TypeId)
    (ho : o.op = .call { callee := .builtin .append, args := #[d, s], argTypes := #[dT, sT] }) (x y v : Value) (hd : a.eval d = x) (hs : a.eval s = y)
    (hrun : (Builtin.append_ #[dT, sT] o.type #[x, y]).run P w = .ok v w') (h : wpList P ops Q rest (a.put o.dst v) w') : wpList P ops Q (o :: rest) a w := by
  refine wpList_plain hgd fun K hK => ?_
  unfold Oper.wp
  simp [execOp, ho, resolve, invoke, builtin, hd, hs, hrun, Result.andThen]
  exact hK _ _ h
/-- The same, as one step of a region that draws its order. -/
theorem step_append_ty {ops : Array Oper} {o : Oper} {a : Act} {w w' : World} {K : Act → World → Prop} {Q : Exit → Act → World → Prop} {E : Prop} (hgd : o.guard = none) (d s : Operand) (dT sT : TypeId)
    (ho : o.op = .call { callee := .builtin .append, args := #[d, s], argTypes := #[dT, sT] }) (x y v : Value) (hd : a.eval d = x) (hs : a.eval s = y)
    (hrun : (Builtin.append_ #[dT, sT] o.type #[x, y]).run Tryz.prog w = .ok v w') (hK : K (a.put o.dst v) w') :
    if Region.wanted o (yielded ops a.tmps) = true then Oper.wp Tryz.prog o a w K Q else E := by
  have hw : Region.wanted o (yielded ops a.tmps) = true := by simp [Region.wanted, hgd]
  rw [if_pos hw]
  unfold Oper.wp
  simp [execOp, ho, resolve, invoke, builtin, hd, hs, hrun, Result.andThen]
  exact hK
/-- An array that is being made, in a box at block g: its shape stands, its numbers grow, in memory behind the box. -/
structure OutAt (g : Nat) (W0 wr : World) (sv : Value) (ad : Option Addr) (cd k : Nat) (m : List Int) : Prop where
  box : Box wr g sv (.slice ad k cd) 26
  row : NewInts (g + 1) wr (.slice ad k cd) m
  below : Below g W0 wr
  len : m.length = k
theorem outAt_new {w : World} {sv : Value} : OutAt w.heap.size w (w.alloc (.cells #[sv, .slice none 0 0] 26)) sv none 0 0 [] :=
  ⟨box_new w _ _ _, NewInts.nil _ _, bAlloc (Below.refl _ _) _, rfl⟩
theorem OutAt.keep {g cd k : Nat} {W0 wr w' : World} {sv : Value} {ad : Option Addr} {m : List Int} (h : OutAt g W0 wr sv ad cd k m) (hb : Below wr.heap.size wr w') : OutAt g W0 w' sv ad cd k m :=
  ⟨h.box.keep hb, h.row.keep hb, h.below.trans (hb.mono (Nat.le_of_lt h.box.lt)), h.len⟩
theorem OutAt.cells {g cd k : Nat} {W0 wr : World} {sv : Value} {ad : Option Addr} {m : List Int} (h : OutAt g W0 wr sv ad cd k m) : wr.cell? ⟨g, 0, none⟩ = some sv ∧ wr.cell? ⟨g, 1, none⟩ = some (.slice ad k cd) ∧ wr.frozen? ⟨g, 0, none⟩ = false ∧ wr.frozen? ⟨g, 1, none⟩ = false :=
  ⟨h.box.c0, h.box.c1, free_at h.box 0, free_at h.box 1⟩
theorem OutAt.box' {g cd k : Nat} {W0 wr w' : World} {sv : Value} {ad : Option Addr} {m : List Int} (h : OutAt g W0 wr sv ad cd k m) (hb : Below (g + 1) wr w') : Box w' g sv (.slice ad k cd) 26 := by
  unfold Box; rw [hb.block g (Nat.lt_succ_self _)]; exact h.box
theorem OutAt.set {g cd k k' cd' : Nat} {W0 wr w' : World} {sv : Value} {ad ad' : Option Addr} {m m' : List Int} (h : OutAt g W0 wr sv ad cd k m) (hn : NewInts (g + 1) w' (.slice ad' k' cd') m') (hb : Below (g + 1) wr w') (hl : m'.length = k') :
    OutAt g W0 (w'.setCell ⟨g, 1, none⟩ (.slice ad' k' cd')) sv ad' cd' k' m' := by
  refine ⟨?_, ?_, below_setCell (h.below.trans (hb.mono (Nat.le_succ _))) (Nat.le_refl _) _ _, hl⟩
  · have := heap_setCell_same w' g 1 _ _ (.slice ad' k' cd') (h.box' hb)
    unfold Box; simpa using this
  · exact hn.but ((But.refl g w').setCell 1 (.slice ad' k' cd')) (by omega)
/-- One number more. -/
theorem OutAt.grow1 {g cd k : Nat} {W0 wr : World} {sv : Value} {ad : Option Addr} {m : List Int} (h : OutAt g W0 wr sv ad cd k m) (hk : k < 1048576) (x : Int) :
    ∃ a' c' w', (Builtin.append_ #[24, 24] 24 #[.slice ad k cd, .slice (some ⟨wr.heap.size, 0, none⟩) 1 1]).run Tryz.prog (wr.alloc (.cells #[.int .i64 x] 3)) = .ok (.slice a' (k + 1) c') w' ∧ Box w' g sv (.slice ad k cd) 26 ∧ OutAt g W0 (w'.setCell ⟨g, 1, none⟩ (.slice a' (k + 1) c')) sv a' c' (k + 1) (m ++ [x]) := by
  obtain ⟨a', c', w', hr, hn, hb⟩ := Go.Proofs.YtcpgdhffemecbaaGreat.grow1 x h.row h.box.lt (by rw [h.len]; exact hk)
  rw [h.len] at hr hn
  exact ⟨a', c', w', hr, h.box' hb, h.set hn hb (by simp [h.len])⟩
/-- A list more. -/
theorem OutAt.growL {g cd k : Nat} {W0 wr : World} {sv : Value} {ad : Option Addr} {m l : List Int} {a : Option Addr} (h : OutAt g W0 wr sv ad cd k m) (hi : Ints wr a l) (hk : k + l.length ≤ 1048576) (c : Nat) :
    ∃ a' c' w', (Builtin.append_ #[24, 24] 24 #[.slice ad k cd, .slice a l.length c]).run Tryz.prog wr = .ok (.slice a' (k + l.length) c') w' ∧ Box w' g sv (.slice ad k cd) 26 ∧ OutAt g W0 (w'.setCell ⟨g, 1, none⟩ (.slice a' (k + l.length) c')) sv a' c' (k + l.length) (m ++ l) := by
  obtain ⟨a', c', w', hr, hn, hb⟩ := Go.Proofs.YtcpgdhffemecbaaGreat.growL h.row hi h.box.lt (by rw [h.len]; exact hk) c
  rw [List.length_append, h.len] at hr hn
  exact ⟨a', c', w', hr, h.box' hb, h.set hn hb (by simp [h.len])⟩
/-- The array that was made. -/
theorem OutAt.arr {g cd k B E : Nat} {W0 wr : World} {a : Option Addr} {c : Nat} {ad : Option Addr} {m S : List Int} (h : OutAt g W0 wr (.slice a S.length c) ad cd k m) (hS : Piece B E W0 (.slice a S.length c) S) (hE : E ≤ g) (hB : B ≤ g) : Arr B wr.heap.size wr (.agg #[.slice a S.length c, .slice ad k cd]) S m := by
  have p1 : Piece B E wr (.slice a S.length c) S := hS.belowC h.below hE
  have p2 := h.row.piece
  have hz := h.box.lt
  exact ⟨_, _, rfl, p1.mono (Nat.le_refl _) (by omega), p2.mono (by omega) (Nat.le_refl _), p1.apart p2 (.inl (by omega))⟩
end Go.Proofs.YtcpgdhffemecbaaGreat
namespace Go.Proofs.YtcpgdhffemecbaaGreat
open Go.RowKit
set_option linter.unusedVariables false
set_option linter.unusedSimpArgs false
/-- The numbers of the first n arrays of a list, one behind the other. -/
def catF (F : List (List Int)) (n : Nat) : List Int := (List.range n).flatMap (fun i => F.getD (2 * i + 1) [])
theorem catF_succ (F : List (List Int)) (n : Nat) : catF F (n + 1) = catF F n ++ F.getD (2 * n + 1) [] := by
  unfold catF; rw [List.range_succ, List.flatMap_append]; simp
theorem catF_mono (F : List (List Int)) {k n : Nat} (h : k ≤ n) : (catF F k).length ≤ (catF F n).length := by
  induction n with
  | zero => obtain rfl : k = 0 := by omega
            exact Nat.le_refl _
  | succ n ih =>
    by_cases e : k = n + 1
    · subst e; exact Nat.le_refl _
    · rw [catF_succ, List.length_append]
      have := ih (by omega)
      omega
set_option maxRecDepth 20000 in
set_option maxHeartbeats 4000000 in
/-- l5Rows. -/
theorem rows5_spec {F : List (List Int)} {t : List Int} {w : World} {v u : Value} {n : Nat} (hA : ArrsI w v F) (hS : IntsI w u t) (hF : F.length = 2 * n) (hn : n ≤ 1048576) (ht : t.length ≤ 1000000) (hL : (catF F n).length ≤ 1000000) :
    Calls Tryz.prog 32 #[v, u] w fun e w' => ∃ v', e = .returned v' ∧ Arr w.heap.size w'.heap.size w' v' ((n : Int) :: t) (catF F n) ∧ Below w.heap.size w w' := by
  have HA : Hid (ArrsI w v F) := hA
  obtain ⟨a, n', c, rfl, e1, _⟩ := hA
  obtain rfl : n' = n := by omega
  obtain ⟨b, f, rfl, g1, h1⟩ := hS
  have HL : Hid ((catF F n').length ≤ 1000000) := hL
  obtain ⟨Z, hZ⟩ : ∃ Z : List Int, Z = (n' : Int) :: t := ⟨_, rfl⟩
  obtain ⟨a5, c5, w5, hr5, hn5, hb5⟩ := growL (newInts_alloc (w.alloc (.cells #[.slice none 0 0, .slice none 0 0] 26)) [(n' : Int)] (Nat.le_refl _) (by simp)) ((h1.alloc (.cells #[.slice none 0 0, .slice none 0 0] 26)).alloc (.cells (vals [(n' : Int)]) 3)) (by simp) (by simp; omega) f
  have eZ : [(n' : Int)] ++ t = Z := by rw [hZ]; rfl
  rw [eZ] at hr5 hn5
  have R5 : Hid ((Builtin.append_ #[24, 24] 24 #[.slice (some ⟨w.heap.size + 1, 0, none⟩) 1 1, .slice b t.length f]).run Tryz.prog ((w.alloc (.cells #[.slice none 0 0, .slice none 0 0] 26)).alloc (.cells #[.int .i64 (n' : Int)] 3)) = .ok (.slice a5 Z.length c5) w5) := by
    have := hr5
    simp [vals] at this
    exact this
  have P5 : Hid (Piece (w.heap.size + 1) w5.heap.size w5 (.slice a5 Z.length c5) Z) := by
    have := hn5.piece
    show Piece _ _ _ _ _
    simpa using this
  have hb6 : Below (w.heap.size + 1) ((w.alloc (.cells #[.slice none 0 0, .slice none 0 0] 26)).alloc (.cells (vals [(n' : Int)]) 3)) w5 := by simpa using hb5
  have X5 : Hid (Box w5 w.heap.size (.slice none 0 0) (.slice none 0 0) 26) := by
    show w5.heap[_]? = _
    rw [hb6.block w.heap.size (Nat.lt_succ_self _)]
    exact heap_alloc2_old w _ _
  have B5 : Hid (Below w.heap.size w w5) := (bAlloc (bAlloc (Below.refl w.heap.size w) _) _).trans (hb6.mono (Nat.le_succ _))
  have L5 : Hid (w.heap.size + 1 ≤ w5.heap.size) := X5.out.lt
  clear hr5 hn5 hb5 hb6 h1 g1 e1 hF hL ht eZ
  rw [← hZ]
  clear hZ
  go_enter Tryz.func32, Tryz.ntmps32
  go_wp2_with (at_builtin; refine wpList_append_ty rfl _ _ 24 24 rfl _ _ _ rfl rfl R5.out ?_)
  generalize hW : w5.alloc (.cells #[.slice a5 Z.length c5, .slice none 0 0] 26) = W6
  have O6 : Hid (OutAt w5.heap.size w5 W6 (.slice a5 Z.length c5) none 0 0 (catF F 0)) := by rw [← hW]; exact outAt_new
  clear hW
  go_loopw [6] (fun i w' => ∃ (k q : Nat) (ad : Option Addr) (cd : Nat), k ≤ n' ∧ i = .int .i64 (k : Int) ∧ OutAt w5.heap.size w5 w' (.slice a5 Z.length c5) ad cd q (catF F k)) (fun i _ => n' - (intOf i).toNat)
  case atStart => exact ⟨0, _, _, _, by omega, rfl, O6.out⟩
  case round =>
    obtain ⟨k, q, ad, cd, hk, rfl, hO⟩ := hrel
    have OK : Hid (OutAt w5.heap.size w5 wr (.slice a5 Z.length c5) ad cd q (catF F k)) := hO
    clear hO O6
    obtain ⟨m0, m1, m2, m3⟩ := OK.out.cells
    by_cases hlt : (k : Int) < (n' : Int)
    · obtain ⟨o, off, sx, sy, rfl, ho, p0, p1, i0, i1⟩ := (HA.out.keep (bTrans B5.out OK.out.below)).at (k := k) (by omega)
      obtain ⟨ax, cx, rfl, gix, ix⟩ := i0
      obtain ⟨ay, cy, rfl, giy, iy⟩ := i1
      have LQ : Hid (q + (F.getD (2 * k + 1) []).length ≤ 1048576) := by
        have h1 := HL.out
        have h2 := catF_mono F (k := k + 1) (n := n') (by omega)
        have h3 := OK.out.len
        rw [catF_succ, List.length_append] at h2
        show _ ≤ _
        omega
      obtain ⟨a7, c7, w7, hr7, hb7, ho7⟩ := (OK.out.keep ((Below.refl wr.heap.size wr).drew)).growL (iy.keep ((Below.refl wr.heap.size wr).drew)) LQ.out cy
      rw [← catF_succ] at ho7
      clear ix gix iy giy
      generalize (F.getD (2 * k) []).length = lx at *
      generalize (F.getD (2 * k + 1) []).length = ly at *
      have R7 : Hid ((Builtin.append_ #[24, 24] 24 #[.slice ad q cd, .slice ay ly cy]).run Tryz.prog wr.drew = .ok (.slice a7 (q + ly) c7) w7) := hr7
      have O7 : Hid (OutAt w5.heap.size w5 (w7.setCell ⟨w5.heap.size, 1, none⟩ (.slice a7 (q + ly) c7)) (.slice a5 Z.length c5) a7 c7 (q + ly) (catF F (k + 1))) := ho7
      have n1 := hb7.c1
      have n2 : w7.frozen? ⟨w5.heap.size, 1, none⟩ = false := free_at hb7 1
      clear hr7 hb7 ho7
      go_wp2_with fail
      go_region_law (refine step_append_ty (by rfl) (.tmp 20) (.tmp 25) 24 24 (by rfl) _ _ _ (by rfl) (by rfl) R7.out ?_)
      all_goals
        go_wp2
        go_roundw
        case rel => exact ⟨k + 1, _, _, _, by omega, by go_num, O7.out⟩
        case measure => simp [intOf]; omega
    · obtain rfl : k = n' := by omega
      have HAr : Hid (Arr (w.heap.size + 1) wr.heap.size wr (.agg #[.slice a5 Z.length c5, .slice ad q cd]) Z (catF F k)) := OK.out.arr P5.out (Nat.le_refl _) L5.out
      have RR : Hid (Box wr w.heap.size (.slice none 0 0) (.slice none 0 0) 26) := X5.out.keep OK.out.below
      have BW : Hid (Below w.heap.size w wr) := bTrans B5.out OK.out.below
      have r0 := RR.out.c0
      have r1 := RR.out.c1
      have f0 : wr.frozen? ⟨w.heap.size, 0, none⟩ = false := free_at RR.out 0
      have f1 : wr.frozen? ⟨w.heap.size, 1, none⟩ = false := free_at RR.out 1
      have HR : Hid (((wr.setCell ⟨w.heap.size, 0, none⟩ (.slice a5 Z.length c5)).setCell ⟨w.heap.size, 1, none⟩ (.slice ad q cd)).heap[w.heap.size]? = some (.cells #[.slice a5 Z.length c5, .slice ad q cd] 26 (0, 0))) := arr_stored RR.out
      go_wp2
      refine bodyPost_ret (v := .agg #[.slice a5 Z.length c5, .slice ad q cd]) (results_arr rfl _ _ w.heap.size _ _ rfl HR.out) rfl ?_
      refine ⟨_, rfl, ?_, below_setCell (below_setCell BW.out (Nat.le_refl _) _ _) (Nat.le_refl _) _ _⟩
      exact ((HAr.out.setCell (by omega) _ _).setCell (by omega) _ _).mono (by omega) (by simp only [size_setCell]; omega)
end Go.Proofs.YtcpgdhffemecbaaGreat
namespace Go.Proofs.YtcpgdhffemecbaaGreat
open Go.RowKit
set_option linter.unusedVariables false
set_option linter.unusedSimpArgs false
/-- The tail of a list of one number or more. -/
theorem tail_cut {w : World} {a : Option Addr} {n0 : Int} {t : List Int} {c : Nat} (h : Ints w a (n0 :: t)) (hc : t.length + 1 ≤ c) :
    ∃ tl ct, (∀ W, (Instr.slice 24 (.slice a (t.length + 1) c) (some (.int .i64 1)) none none).run Tryz.prog W = .ok (.slice tl t.length ct) W) ∧ IntsI w (.slice tl t.length ct) t := by
  rcases h with h | ⟨b, o, rfl, hb, hc'⟩
  · cases h
  · by_cases e : 1 < c
    · refine ⟨some ⟨b, o + 1, none⟩, c - 1, fun W => slice_tail W b o t.length c e, _, _, rfl, by omega, .inr ⟨b, o + 1, rfl, hb, fun k hk => ?_⟩⟩
      have := hc' (k + 1) (by simp; omega)
      rw [show o + 1 + k = o + (k + 1) from by omega, this]
      simp
    · obtain rfl : c = 1 := by omega
      obtain rfl : t = [] := List.eq_nil_of_length_eq_zero (by omega)
      exact ⟨some ⟨b, o, none⟩, 0, fun W => slice_one W b o, _, _, rfl, by simp, .inl rfl⟩
/-- Arrays of a list, by their numbers. -/
def pickF (F : List (List Int)) (idx : Nat → Nat) (k : Nat) : List (List Int) := (List.range k).flatMap (fun i => [F.getD (2 * idx i) [], F.getD (2 * idx i + 1) []])
theorem pickF_length (F : List (List Int)) (idx : Nat → Nat) (k : Nat) : (pickF F idx k).length = 2 * k := flat2_length k _ (fun _ => rfl)
theorem pickF_succ (F : List (List Int)) (idx : Nat → Nat) (k : Nat) : pickF F idx (k + 1) = pickF F idx k ++ [F.getD (2 * idx k) [], F.getD (2 * idx k + 1) []] := by
  unfold pickF; rw [List.range_succ, List.flatMap_append]; simp
theorem pickF_at (F : List (List Int)) (idx : Nat → Nat) {k i : Nat} (h : i < k) : (pickF F idx k).getD (2 * i + 1) [] = F.getD (2 * idx i + 1) [] := by
  induction k with
  | zero => omega
  | succ k ih =>
    rw [pickF_succ, List.getD_eq_getElem?_getD]
    by_cases e : i = k
    · subst e
      rw [List.getElem?_append_right (by rw [pickF_length]; omega), pickF_length, show 2 * i + 1 - 2 * i = 1 from by omega]
      rfl
    · rw [List.getElem?_append_left (by rw [pickF_length]; omega), ← List.getD_eq_getElem?_getD]
      exact ih (by omega)
theorem catF_pick (F : List (List Int)) (idx : Nat → Nat) (n : Nat) : catF (pickF F idx n) n = (List.range n).flatMap (fun i => F.getD (2 * idx i + 1) []) := by
  unfold catF
  rw [List.flatMap_def, List.flatMap_def]
  congr 1
  apply List.map_congr_left
  intro i hi
  exact pickF_at F idx (by simpa using hi)
/-- The list that is made: its cells, and that each list in it can be read in the world in which it began. -/
structure ListAt (W0 wr : World) (v : Value) (k : Nat) (xs : List Value) (F : List (List Int)) : Prop where
  own : wr.ownsRow W0.heap.size 26 2 v k xs
  ints : ∀ j, j < 2 * k → IntsI W0 (xs.getD j undef) (F.getD j [])
  len : F.length = 2 * k
  below : Below W0.heap.size W0 wr
theorem listAt_new (w : World) : ListAt w (w.alloc (.cells #[] 26)) (.slice (some ⟨w.heap.size, 0, none⟩) 0 0) 0 [] [] := by
  refine ⟨⟨rfl, .inr ⟨w.heap.size, 0, #[], rfl, Nat.le_refl _, heap_alloc_new w _, Nat.le_refl _, by unfold maxLen; omega, rfl, rfl⟩⟩, ?_, rfl, bAlloc (Below.refl _ _) _⟩
  intro j hj; omega
theorem ListAt.arrsI {W0 wr : World} {v : Value} {k : Nat} {xs : List Value} {F : List (List Int)} (h : ListAt W0 wr v k xs F) : ArrsI wr v F := by
  rcases h.own.2 with ⟨rfl, h0⟩ | ⟨g, cap, cur, rfl, hB, hg, hle, hmax, hsz, htk⟩
  · subst h0
    exact ⟨none, 0, 0, rfl, h.len, .inl rfl⟩
  · refine ⟨_, k, cap, rfl, h.len, .inr ⟨g, 0, xs, rfl, lt_of_heapA hg, by rw [h.len, h.own.1]; omega, fun j hj => ⟨?_, (h.ints j (by rw [h.own.1] at hj; omega)).keep h.below⟩⟩⟩
    have hx := h.own.1
    have hj' : j < k * 2 := by rw [← hx]; exact hj
    refine cell_at (fr := (0, 0)) hg ?_
    rw [Nat.zero_add]
    have e : (cur.toList.take (k * 2))[j]? = xs[j]? := by rw [htk]
    rw [List.getElem?_take_of_lt hj'] at e
    rw [← Array.getElem?_toList, e]
    simp [hj]
theorem getD_snoc2 {α : Type} (xs : List α) (x y z : α) {k : Nat} (hx : xs.length = k) : (∀ j, j < k → (xs ++ [x, y]).getD j z = xs.getD j z) ∧ (xs ++ [x, y]).getD k z = x ∧ (xs ++ [x, y]).getD (k + 1) z = y := by
  subst hx
  refine ⟨fun j hj => ?_, ?_, ?_⟩
  · simp only [List.getD_eq_getElem?_getD]; rw [List.getElem?_append_left hj]
  · simp
  · simp only [List.getD_eq_getElem?_getD]; rw [List.getElem?_append_right (by omega), show xs.length + 1 - xs.length = 1 from by omega]; rfl
/-- One array more. -/
theorem ListAt.grow {W0 wr : World} {v : Value} {k : Nat} {xs : List Value} {F : List (List Int)} (h : ListAt W0 wr v k xs F) (hk : k < 1000000) {x y : Value} {s d : List Int} (hx : IntsI W0 x s) (hy : IntsI W0 y d) :
    ∃ a' c' w', (Builtin.append_ #[32, 32] 32 #[v, .slice (some ⟨wr.heap.size, 0, none⟩) 1 1]).run Tryz.prog (wr.alloc (.cells #[x, y] 26)) = .ok (.slice a' (k + 1) c') w' ∧ ListAt W0 w' (.slice a' (k + 1) c') (k + 1) (xs ++ [x, y]) (F ++ [s, d]) := by
  obtain ⟨i, hq, z1, z2, z3⟩ : ∃ i, Tryz.prog.info? 26 = some i ∧ i.zero = some (.agg #[.slice none 0 0, .slice none 0 0]) ∧ i.size = 2 ∧ i.bytes = 48 := by
    have hi := info_arr
    cases hq : Tryz.prog.info? 26 with
    | none => rw [hq] at hi; cases hi
    | some i => rw [hq] at hi; simp at hi; exact ⟨i, rfl, hi.1, hi.2.1, hi.2.2⟩
  have hx' := hx
  have hy' := hy
  obtain ⟨a1, c1, rfl, _, _⟩ := hx
  obtain ⟨a2, c2, rfl, _, _⟩ := hy
  obtain ⟨v', w', hr, h2, h3, _, _⟩ := run_append_own_at (P := Tryz.prog) (wr.alloc (.cells #[.slice a1 s.length c1, .slice a2 d.length c2] 26)) W0.heap.size 32 32 26 i _ 2 48 Tryz.underlying32 hq z1 z2 z3 rfl (by decide) v k xs (ownsRow_keep h.own (bAlloc (Below.refl _ _) _)) ⟨wr.heap.size, 0, none⟩ 1 1 [.slice a1 s.length c1, .slice a2 d.length c2] rfl (World.news_of_block (cs := #[.slice a1 s.length c1, .slice a2 d.length c2]) (heap_alloc_new wr _)) (by simp [Value.oneCell']) (by unfold maxLen; omega) (by omega) (by have := h.below.size; simp; omega)
  obtain ⟨g, cap, hv, _, _⟩ := h2.form (by omega)
  subst hv
  have hb : Below W0.heap.size W0 w' := by
    have := h.below.size
    refine (bAlloc h.below (.cells #[.slice a1 s.length c1, .slice a2 d.length c2] 26)).trans (grown_below h3 (fun r e => ?_) (by simp; omega))
    rcases h.own.2 with ⟨rfl, _⟩ | ⟨g', cap', cur, rfl, hB, _⟩
    · cases e
    · cases e; exact hB
  obtain ⟨q1, q2, q3⟩ := getD_snoc2 xs (.slice a1 s.length c1) (.slice a2 d.length c2) undef (k := 2 * k) (by rw [h.own.1]; omega)
  obtain ⟨p1, p2, p3⟩ := getD_snoc2 F s d [] (k := 2 * k) h.len
  refine ⟨_, _, w', hr, h2, fun j hj => ?_, by rw [List.length_append, h.len]; simp; omega, hb⟩
  by_cases e : j < 2 * k
  · rw [q1 j e, p1 j e]; exact h.ints j e
  · by_cases e2 : j = 2 * k
    · subst e2; rw [q2, p2]; exact hx'
    · obtain rfl : j = 2 * k + 1 := by omega
      rw [q3, p3]; exact hy'
end Go.Proofs.YtcpgdhffemecbaaGreat
namespace Go.Proofs.YtcpgdhffemecbaaGreat
open Go.RowKit
set_option linter.unusedVariables false
set_option linter.unusedSimpArgs false
/-- What the loop keeps: the answer's box as it was laid, what was reckoned so far in a box of its own. -/
structure RedSt (w W : World) (q : Nat) (x y : Value) (t D : List Int) : Prop where
  r : Box W w.heap.size (.slice none 0 0) (.slice none 0 0) 26
  z : Box W q x y 26
  a : ∃ B C, Arr B C W (.agg #[x, y]) t D ∧ w.heap.size + 1 ≤ B ∧ C ≤ W.heap.size ∧ (C ≤ q ∨ q < B)
  hq : w.heap.size < q
  bl : Below w.heap.size w W
theorem RedSt.arrI {w W : World} {q : Nat} {x y : Value} {t D : List Int} (h : RedSt w W q x y t D) : ArrI W (.agg #[x, y]) t D := by
  obtain ⟨B, C, ha, _⟩ := h.a
  exact ha.arrI
theorem RedSt.put {w W W' : World} {q : Nat} {x y x' y' : Value} {t D D' : List Int} (h : RedSt w W q x y t D) (hb : Below W.heap.size W W') (ha : Arr W.heap.size W'.heap.size W' (.agg #[x', y']) t D') : RedSt w ((W'.setCell ⟨q, 0, none⟩ x').setCell ⟨q, 1, none⟩ y') q x' y' t D' := by
  have h1 := h.hq
  have h2 := h.z.lt
  have h3 := hb.size
  have h4 := h.bl.size
  have ww : Win q (q + 1) W' ((W'.setCell ⟨q, 0, none⟩ x').setCell ⟨q, 1, none⟩ y') := (win_setCell _ _ _ _).trans (win_setCell _ _ _ _)
  refine ⟨(h.r.keep hb).win ww (.inl (by omega)), arr_stored (h.z.keep hb), ⟨W.heap.size, W'.heap.size, ha.win ww (.inr (by omega)), by omega, by simp [size_setCell], .inr h2⟩, h1, (bTrans h.bl hb).trans (ww.below (by omega) (by omega))⟩
set_option maxRecDepth 20000 in
set_option maxHeartbeats 8000000 in
/-- l7Reduce, of one row at least. -/
theorem l7red_spec {g : Int} {t : List Int} {R : List (List Int)} {w : World} {v u : Value} (h : ArrsI w v (flatR t R)) (hR : R ≠ []) (hok : ∀ i, i < R.length → arrOk t (R.getD i []) = true) (hn : R.length ≤ 300) :
    Calls Tryz.prog 31 #[.int .i64 g, v, u] w fun r w' => ∃ v', r = .returned (.tuple #[v', .int .i64 (redL g t R).1]) ∧ Arr w.heap.size w'.heap.size w' v' (if (redL g t R).1 = 0 then t else []) (redL g t R).2 ∧ Below w.heap.size w w' := by
  have AR : Hid (ArrsI w v (flatR t R)) := h
  have HOK : Hid (∀ i, i < R.length → arrOk t (R.getD i []) = true) := hok
  obtain ⟨ra, rn, rc, rfl, e5, _⟩ := h
  obtain ⟨M, hM⟩ : ∃ M, R.length = M + 1 := ⟨R.length - 1, by have := List.length_pos_iff.2 hR; omega⟩
  obtain rfl : rn = M + 1 := by rw [flatR_len] at e5; omega
  have HM : Hid (R.length = M + 1) := hM
  have hM3 : M ≤ 299 := by omega
  have HTL : Hid (t.length ≤ 1048576) := by
    have := (sizeV_ok (arrOk_shape (hok 0 (by omega)))).1
    show _ ≤ _; omega
  have hRD : ∀ i, i < M + 1 → (R.getD i []).length ≤ 1048576 := fun i hi => by have := arrOk_len (hok i (by omega)); omega
  obtain ⟨o, off, sx, sy, rfl, ho, p0, p1, i0, i1⟩ := AR.out.at (k := M) (by omega)
  rw [(flatR_at t R (i := M) (by omega)).1] at i0
  rw [(flatR_at t R (i := M) (by omega)).2] at i1
  have E0 : Hid (redL g t (R.drop M) = (0, R.getD M [])) := by
    show _ = _
    rw [drop_at (by omega), List.drop_eq_nil_of_le (by omega), redL_one]
  have hl0 := hRD M (by omega)
  generalize R.getD M [] = r0 at *
  obtain ⟨ax, cx, rfl, gx, ix⟩ := i0
  obtain ⟨ay, cy, rfl, gy, iy⟩ := i1
  have A0 : Hid (ArrI w (.agg #[.slice ax t.length cx, .slice ay r0.length cy]) t r0) := ⟨_, _, _, _, rfl, ix, iy, gx, gy⟩
  have u0 : ∀ O : Obj, (w.alloc O).cell? ⟨o, off + M * 2, none⟩ = some (.slice ax t.length cx) := fun O => ((bAlloc (Below.refl _ _) O).cell (p := ⟨o, off + M * 2, none⟩) ho).trans p0
  have u1 : ∀ O : Obj, (w.alloc O).cell? ⟨o, off + M * 2 + 1, none⟩ = some (.slice ay r0.length cy) := fun O => ((bAlloc (Below.refl _ _) O).cell (p := ⟨o, off + M * 2 + 1, none⟩) ho).trans p1
  have hne : ((M : Int) + 1 == 0) = false := by simp; omega
  have HL0 : Hid (r0.length ≤ 1048576) := hl0
  obtain ⟨QC, hQC⟩ : ∃ QC, QC = (redL g t R).1 := ⟨_, rfl⟩
  obtain ⟨QS, hQS⟩ : ∃ QS, QS = (if (redL g t R).1 = 0 then t else []) := ⟨_, rfl⟩
  obtain ⟨QD, hQD⟩ : ∃ QD, QD = (redL g t R).2 := ⟨_, rfl⟩
  rw [← hQS, ← hQC, ← hQD]
  have EG : Hid (∀ d, redL g t R = (0, d) → QC = 0 ∧ QS = t ∧ QD = d) := fun d e => by rw [hQC, hQS, hQD, e]; exact ⟨rfl, if_pos rfl, rfl⟩
  have EB : Hid (∀ c, c ≠ 0 → redL g t R = (c, []) → QC = c ∧ QS = [] ∧ QD = []) := fun c hc e => by rw [hQC, hQS, hQD, e]; exact ⟨rfl, if_neg hc, rfl⟩
  clear hQC hQS hQD
  clear hR hok hM e5 p0 p1 ix iy gx gy hl0
  go_enter Tryz.func31, Tryz.ntmps31
  go_wp2_with fail
  refine (copy_spec (A0.out.keep (bAlloc (Below.refl _ _) _)) HTL.out HL0.out).mono ?_
  rintro r w1 ⟨v1, rfl, ha, hb⟩
  obtain ⟨xa, xc, ya, yc, rfl, _, _, _, _⟩ := ha.arrI
  have HA1 : Hid (Arr (w.heap.size + 1) w1.heap.size w1 (.agg #[.slice xa t.length xc, .slice ya r0.length yc]) t r0) := ha.mono (by simp) (Nat.le_refl _)
  have HB1 : Hid (Below w.heap.size w w1) := bTrans (bAlloc (Below.refl _ _) _) hb
  have R1 : Hid (Box w1 w.heap.size (.slice none 0 0) (.slice none 0 0) 26) := (box_new w _ _ _).keep hb
  clear ha hb u0 u1
  go_wp2
  generalize hW : w1.alloc (.cells #[.slice xa t.length xc, .slice ya r0.length yc] 26) = W2
  have ST : Hid (RedSt w W2 w1.heap.size (.slice xa t.length xc) (.slice ya r0.length yc) t r0) := by
    have BW : Below w1.heap.size w1 W2 := by rw [← hW]; exact bAlloc (Below.refl _ _) _
    have z := BW.size
    exact ⟨R1.out.keep BW, by rw [← hW]; exact box_new w1 _ _ _, ⟨_, _, HA1.out.keep BW, Nat.le_refl _, z, .inl (Nat.le_refl _)⟩, R1.out.lt, bTrans HB1.out BW⟩
  clear hW HA1 HB1 R1
  go_loopg [14] (M + 1) (fun gk i w' => ∃ (j : Nat) (z : Int) (xa ya : Option Addr) (xc yc : Nat) (D : List Int), gk = j + 1 ∧ j ≤ M ∧ z = (j : Int) - 1 ∧ i = .int .i64 z ∧ redL g t (R.drop j) = (0, D) ∧ RedSt w w' w1.heap.size (.slice xa t.length xc) (.slice ya D.length yc) t D)
  case atStart => exact ⟨M, _, _, _, _, _, _, rfl, Nat.le_refl _, rfl, by go_num, E0.out, ST.out⟩
  case round =>
    obtain ⟨j, z, xa, ya, xc, yc, D, rfl, hj, hz, rfl, hD, hst⟩ := hrel
    have HD : Hid (redL g t (R.drop j) = (0, D)) := hD
    have HST : Hid (RedSt w wr w1.heap.size (.slice xa t.length xc) (.slice ya D.length yc) t D) := hst
    clear hD hst ST E0
    by_cases hp : 0 ≤ z
    · obtain ⟨J, rfl⟩ : ∃ J : Nat, z = (J : Int) := ⟨z.toNat, by omega⟩
      obtain rfl : j = J + 1 := by omega
      clear hz
      have hJM : (J : Int) < (M : Int) + 1 := by omega
      have HDA : Hid (arrOk t D = true) := by
        have q := redL_ok (g := g) (t := t) (R := R.drop (J + 1)) (by intro e; have h1 := congrArg List.length e; have h2 := HM.out; rw [List.length_drop, List.length_nil] at h1; omega) (fun i hi => by
          have e : (R.drop (J + 1)).getD i [] = R.getD (J + 1 + i) [] := by simp [List.getD]
          rw [e]
          exact HOK.out _ (by rw [List.length_drop] at hi; omega)) (by rw [HD.out])
        rw [HD.out] at q
        exact q
      obtain ⟨o, off, sx, sy, ee, ho, p0, p1, i0, i1⟩ := AR.out.at (k := J) (by omega)
      cases ee
      rw [(flatR_at t R (i := J) (by have := HM.out; omega)).1] at i0
      rw [(flatR_at t R (i := J) (by have := HM.out; omega)).2] at i1
      have ER : redL g t (R.drop J) = (eachTwoC g t (R.getD J []) t D, eachTwoD g t (R.getD J []) t D) := by
        have q := HD.out
        rw [drop_at (by have := HM.out; omega), redL_cons (by intro e; have h1 := congrArg List.length e; have h2 := HM.out; rw [List.length_drop, List.length_nil] at h1; omega) (by rw [q]), q]
      have HRL : Hid ((R.getD J []).length ≤ 1048576) := hRD J (by omega)
      generalize R.getD J [] = rj at *
      obtain ⟨ax, cx, rfl, gx, ix⟩ := i0
      obtain ⟨ay, cy, rfl, gy, iy⟩ := i1
      have AJ : Hid (ArrI wr (.agg #[.slice ax t.length cx, .slice ay rj.length cy]) t rj) := ArrI.keep ⟨_, _, _, _, rfl, ix, iy, gx, gy⟩ HST.out.bl
      have c0 : wr.cell? ⟨o, off + J * 2, none⟩ = some (.slice ax t.length cx) := (HST.out.bl.cell (p := ⟨o, off + J * 2, none⟩) ho).trans p0
      have c1 : wr.cell? ⟨o, off + J * 2 + 1, none⟩ = some (.slice ay rj.length cy) := (HST.out.bl.cell (p := ⟨o, off + J * 2 + 1, none⟩) ho).trans p1
      have HLO : Hid (o < wr.heap.size) := Nat.lt_of_lt_of_le ho HST.out.bl.size
      have HDL : Hid (D.length ≤ 1048576) := by have := arrOk_len HDA.out; show _ ≤ _; omega
      have HE : Hid (∀ W, Below wr.heap.size wr W → Calls Tryz.prog 73 #[.int .i64 g, .agg #[.slice ax t.length cx, .slice ay rj.length cy], .agg #[.slice xa t.length xc, .slice ya D.length yc]] W fun r w' => ∃ v', r = .returned (.tuple #[v', .int .i64 (eachTwoC g t rj t D)]) ∧ Arr W.heap.size w'.heap.size w' v' (eachTwoS g t rj t D) (eachTwoD g t rj t D) ∧ Below W.heap.size W w') := fun W hb => eachTwo_spec (AJ.out.keep hb) (HST.out.arrI.keep hb) HTL.out HRL.out HTL.out HDL.out
      have HSH : Hid (eachTwoC g t rj t D = 0 → eachTwoS g t rj t D = t) := row_shape
      obtain ⟨C, hC⟩ : ∃ C, C = eachTwoC g t rj t D := ⟨_, rfl⟩
      obtain ⟨S', hS'⟩ : ∃ S', S' = eachTwoS g t rj t D := ⟨_, rfl⟩
      obtain ⟨D', hD'⟩ : ∃ D', D' = eachTwoD g t rj t D := ⟨_, rfl⟩
      rw [← hC, ← hS', ← hD'] at HE
      rw [← hC, ← hS'] at HSH
      rw [← hC, ← hD'] at ER
      have HER : Hid (redL g t (R.drop J) = (C, D')) := ER
      have z0 := HST.out.z.c0
      have z1 := HST.out.z.c1
      clear hC hS' hD' ER p0 p1 ix iy gx gy HDA
      go_wp2_with fail
      go_cut [15, 16] from 51 to 69 (fun p q w' => ∃ (gN : Nat) (aN : Option Addr) (cN : Nat) (bN : Option Addr) (eN : Nat), p = .pointer (some ⟨gN, 0, none⟩) ∧ q = .int .i64 C ∧ Box w' gN (.slice aN S'.length cN) (.slice bN D'.length eN) 26 ∧ Arr wr.heap.size w'.heap.size w' (.agg #[.slice aN S'.length cN, .slice bN D'.length eN]) S' D' ∧ Below wr.heap.size wr w')
      case first =>
        have q0 := (fun O : Obj => (show (World.drew (wr.alloc O)).cell? ⟨o, off + J * 2, none⟩ = some (.slice ax t.length cx) from ((bAlloc (Below.refl wr.heap.size wr) O).cell (p := ⟨o, off + J * 2, none⟩) HLO.out).trans c0))
        have q1 := (fun O : Obj => (show (World.drew (wr.alloc O)).cell? ⟨o, off + J * 2 + 1, none⟩ = some (.slice ay rj.length cy) from ((bAlloc (Below.refl wr.heap.size wr) O).cell (p := ⟨o, off + J * 2 + 1, none⟩) HLO.out).trans c1))
        have q2 := (fun O : Obj => (show (World.drew (wr.alloc O)).cell? ⟨w1.heap.size, 0, none⟩ = some (.slice xa t.length xc) from (HST.out.z.keep (bAlloc (Below.refl _ _) O)).c0))
        have q3 := (fun O : Obj => (show (World.drew (wr.alloc O)).cell? ⟨w1.heap.size, 1, none⟩ = some (.slice ya D.length yc) from (HST.out.z.keep (bAlloc (Below.refl _ _) O)).c1))
        have LZ : Hid (w1.heap.size < wr.heap.size) := HST.out.z.lt
        go_region_held3 (fun w' => w'.cell? ⟨o, off + J * 2, none⟩ = some (.slice ax t.length cx) ∧ w'.cell? ⟨o, off + J * 2 + 1, none⟩ = some (.slice ay rj.length cy) ∧ w'.cell? ⟨w1.heap.size, 0, none⟩ = some (.slice xa t.length xc) ∧ w'.cell? ⟨w1.heap.size, 1, none⟩ = some (.slice ya D.length yc))
          (first | (refine ⟨?_, ?_, ?_, ?_⟩ <;> (first | with_reducible assumption | simp only [*])) | exact ⟨c0, c1, z0, z1⟩)
          ((go_at_call 73; refine (HE.out _ (by repeat first | exact (Below.refl _ _).drew | exact Below.refl _ _ | refine bAlloc ?_ _ | refine Below.drew ?_)).mono ?_; rintro r w5 ⟨v5, rfl, ha5, hb5⟩; obtain ⟨xa5, xc5, ya5, yc5, rfl, _, _, _, _⟩ := ha5.arrI; have HB5 : Hid (Below wr.heap.size wr w5) := bTrans (by repeat first | exact (Below.refl _ _).drew | exact Below.refl _ _ | refine bAlloc ?_ _ | refine Below.drew ?_) hb5; have HA5 : Hid (Arr _ w5.heap.size w5 (.agg #[.slice xa5 S'.length xc5, .slice ya5 D'.length yc5]) S' D') := ha5; (try have bq : Hid (Box w5 wr.heap.size (.slice none 0 0) (.slice none 0 0) 26) := Box.keep (w := World.drew (World.alloc wr (.cells #[.slice none 0 0, .slice none 0 0] 26))) (box_new wr _ _ _) hb5); have d0 := (HB5.out.cell (p := ⟨o, off + J * 2, none⟩) HLO.out).trans c0; have d1 := (HB5.out.cell (p := ⟨o, off + J * 2 + 1, none⟩) HLO.out).trans c1; have d2 := (HST.out.z.keep HB5.out).c0; have d3 := (HST.out.z.keep HB5.out).c1; have e0 := (fun O : Obj => ((bAlloc HB5.out O).cell (p := ⟨o, off + J * 2, none⟩) HLO.out).trans c0); have e1 := (fun O : Obj => ((bAlloc HB5.out O).cell (p := ⟨o, off + J * 2 + 1, none⟩) HLO.out).trans c1); have e2 := (fun O : Obj => (HST.out.z.keep (bAlloc HB5.out O)).c0); have e3 := (fun O : Obj => (HST.out.z.keep (bAlloc HB5.out O)).c1); (try have m0 := bq.out.c0); (try have m1 := bq.out.c1); (try have f0 : w5.frozen? ⟨wr.heap.size, 0, none⟩ = false := free_at bq.out 0); (try have f1 : w5.frozen? ⟨wr.heap.size, 1, none⟩ = false := free_at bq.out 1); (try have t0 := (fun (_ : Hid (Box w5 wr.heap.size (.slice none 0 0) (.slice none 0 0) 26)) (x y : Value) => (((HST.out.z.keep HB5.out).win (win_setCell _ wr.heap.size 0 x) (.inl LZ.out)).win (win_setCell _ wr.heap.size 1 y) (.inl LZ.out)).c0) bq); (try have t1 := (fun (_ : Hid (Box w5 wr.heap.size (.slice none 0 0) (.slice none 0 0) 26)) (x y : Value) => (((HST.out.z.keep HB5.out).win (win_setCell _ wr.heap.size 0 x) (.inl LZ.out)).win (win_setCell _ wr.heap.size 1 y) (.inl LZ.out)).c1) bq); (try have t2 := (fun (_ : Hid (Box w5 wr.heap.size (.slice none 0 0) (.slice none 0 0) 26)) (x y : Value) => (show ((w5.setCell ⟨wr.heap.size, 0, none⟩ x).setCell ⟨wr.heap.size, 1, none⟩ y).cell? ⟨o, off + J * 2, none⟩ = some (.slice ax t.length cx) by rw [World.cell?_setCell_far _ _ _ _ (Nat.ne_of_gt HLO.out), World.cell?_setCell_far _ _ _ _ (Nat.ne_of_gt HLO.out)]; exact d0)) bq); (try have t3 := (fun (_ : Hid (Box w5 wr.heap.size (.slice none 0 0) (.slice none 0 0) 26)) (x y : Value) => (show ((w5.setCell ⟨wr.heap.size, 0, none⟩ x).setCell ⟨wr.heap.size, 1, none⟩ y).cell? ⟨o, off + J * 2 + 1, none⟩ = some (.slice ay rj.length cy) by rw [World.cell?_setCell_far _ _ _ _ (Nat.ne_of_gt HLO.out), World.cell?_setCell_far _ _ _ _ (Nat.ne_of_gt HLO.out)]; exact d1)) bq); clear ha5 hb5))
        all_goals
          go_wp2_with fail
          go_meet
          case rel =>
            first
              | exact ⟨w5.heap.size, _, _, _, _, rfl, rfl, box_new w5 _ _ _, (HA5.out.keep (bAlloc (Below.refl _ _) _)).mono (by first | exact Nat.le_refl _ | simp) (by simp), bAlloc HB5.out _⟩
              | exact ⟨wr.heap.size, _, _, _, _, rfl, rfl, arr_stored bq.out, ((HA5.out.setCell (by simp) _ _).setCell (by simp) _ _).mono (by simp) (by simp [size_setCell]), below_setCell (below_setCell HB5.out (Nat.le_refl _) _ _) (Nat.le_refl _) _ _⟩
      case rest =>
        obtain ⟨gN, aN, cN, bN, eN, rfl, rfl, hbx, har, hbl⟩ := hcut
        have HBX : Hid (Box wc gN (.slice aN S'.length cN) (.slice bN D'.length eN) 26) := hbx
        have HAR : Hid (Arr wr.heap.size wc.heap.size wc (.agg #[.slice aN S'.length cN, .slice bN D'.length eN]) S' D') := har
        have HBL : Hid (Below wr.heap.size wr wc) := hbl
        have RC : Hid (Box wc w.heap.size (.slice none 0 0) (.slice none 0 0) 26) := HST.out.r.keep hbl
        have ZC : Hid (Box wc w1.heap.size (.slice xa t.length xc) (.slice ya D.length yc) 26) := HST.out.z.keep hbl
        clear hbx har hbl c0 c1 z0 z1 HE
        by_cases hc : C = 0
        · subst hc
          obtain rfl : S' = t := HSH.out rfl
          have x0 := HBX.out.c0
          have x1 := HBX.out.c1
          have y0 := ZC.out.c0
          have y1 := ZC.out.c1
          have f0 : wc.frozen? ⟨w1.heap.size, 0, none⟩ = false := free_at ZC.out 0
          have f1 : wc.frozen? ⟨w1.heap.size, 1, none⟩ = false := free_at ZC.out 1
          have ST2 : Hid (RedSt w ((wc.setCell ⟨w1.heap.size, 0, none⟩ (.slice aN S'.length cN)).setCell ⟨w1.heap.size, 1, none⟩ (.slice bN D'.length eN)) w1.heap.size (.slice aN S'.length cN) (.slice bN D'.length eN) S' D') := HST.out.put HBL.out HAR.out
          go_wp2
          go_roundg (J + 1)
          case measure => omega
          case rel => exact ⟨J, _, _, _, _, _, _, rfl, by omega, rfl, by go_num, HER.out, ST2.out⟩
        · have hcb : (C != 0) = true := by simpa using hc
          have EF : Hid (redL g t R = (C, [])) := by
            have q := redL_left (g := g) (t := t) R J (by rw [HER.out]; exact hc)
            rw [HER.out] at q
            exact q
          have y0 := RC.out.c0
          have y1 := RC.out.c1
          have f0 : wc.frozen? ⟨w.heap.size, 0, none⟩ = false := free_at RC.out 0
          have f1 : wc.frozen? ⟨w.heap.size, 1, none⟩ = false := free_at RC.out 1
          have HR : Hid (((wc.setCell ⟨w.heap.size, 0, none⟩ (.slice none 0 0)).setCell ⟨w.heap.size, 1, none⟩ (.slice none 0 0)).heap[w.heap.size]? = some (.cells #[.slice none 0 0, .slice none 0 0] 26 (0, 0))) := arr_stored RC.out
          have HCN : Hid (C ≠ 0) := hc
          clear hc
          go_wp2
          refine bodyPost_ret (results_arr_tmp Tryz.results31 _ _ w.heap.size _ _ rfl HR.out) rfl ?_
          obtain ⟨rfl, rfl, rfl⟩ := EB.out _ HCN.out EF.out
          exact ⟨_, rfl, arr_zero _ _ _, below_setCell (below_setCell (bTrans HST.out.bl HBL.out) (Nat.le_refl _) _ _) (Nat.le_refl _) _ _⟩
    · obtain rfl : j = 0 := by omega
      have EF : Hid (redL g t R = (0, D)) := by have q := HD.out; rw [List.drop_zero] at q; exact q
      have x0 := HST.out.z.c0
      have x1 := HST.out.z.c1
      have y0 := HST.out.r.c0
      have y1 := HST.out.r.c1
      have f0 : wr.frozen? ⟨w.heap.size, 0, none⟩ = false := free_at HST.out.r 0
      have f1 : wr.frozen? ⟨w.heap.size, 1, none⟩ = false := free_at HST.out.r 1
      have HR : Hid (((wr.setCell ⟨w.heap.size, 0, none⟩ (.slice xa t.length xc)).setCell ⟨w.heap.size, 1, none⟩ (.slice ya D.length yc)).heap[w.heap.size]? = some (.cells #[.slice xa t.length xc, .slice ya D.length yc] 26 (0, 0))) := arr_stored HST.out.r
      go_wp2
      refine bodyPost_ret (results_arr_tmp Tryz.results31 _ _ w.heap.size _ _ rfl HR.out) rfl ?_
      obtain ⟨rfl, rfl, rfl⟩ := EG.out _ EF.out
      obtain ⟨B, C, ha, hB, hC, _⟩ := HST.out.a
      exact ⟨_, rfl, ((ha.setCell (by omega) _ _).setCell (by omega) _ _).mono (by omega) (by simp only [size_setCell]; exact hC), below_setCell (below_setCell HST.out.bl (Nat.le_refl _) _ _) (Nat.le_refl _) _ _⟩
end Go.Proofs.YtcpgdhffemecbaaGreat
namespace Go.Proofs.YtcpgdhffemecbaaGreat
open Go.RowKit
set_option linter.unusedVariables false
set_option linter.unusedSimpArgs false
set_option maxRecDepth 20000 in
set_option maxHeartbeats 1000000 in
theorem scalar_spec (x : Int) (w : World) :
    Calls Tryz.prog 90 #[.int .i64 x] w fun e w' => ∃ v, e = .returned v ∧ Arr w.heap.size w'.heap.size w' v [] [x] ∧ Below w.heap.size w w' := by
  go_enter Tryz.func90, Tryz.ntmps90
  go_wp2
  go_returns
  refine ⟨_, rfl, ⟨_, _, rfl, Piece.nil _ _ _, ?_, fun g off n c off' n' c' h => by cases h⟩, by repeat first | exact Below.refl _ _ | refine bAlloc ?_ _⟩
  exact OwnInts.piece (l := [x]) (heap_alloc2_new w _ _) (by omega) (by simp) 1
/-- What VectorOf answers. -/
def vecOk (l : List Int) : Bool := arrOk [(l.length : Int)] l
end Go.Proofs.YtcpgdhffemecbaaGreat
namespace Go.Proofs.YtcpgdhffemecbaaGreat
open Go.RowKit
set_option linter.unusedVariables false
set_option linter.unusedSimpArgs false
theorem okC_good {s d : List Int} (h : arrOk s d = true) : okC s d = 0 := by unfold okC; rw [if_pos h]
theorem okC_bad {s d : List Int} (h : ¬ arrOk s d = true) : okC s d = 1 := by unfold okC; rw [if_neg h]
/-- What l5Right makes of an array. -/
def rightR (s d : List Int) : Int × List Int × List Int := mkR (if arrOk s d = true then 0 else 6) s d
end Go.Proofs.YtcpgdhffemecbaaGreat
namespace Go.Proofs.YtcpgdhffemecbaaGreat
open Go.RowKit
set_option linter.unusedVariables false
set_option linter.unusedSimpArgs false
theorem flat2_odd (x y : Nat → List Int) {k i : Nat} (h : i < k) : ((List.range k).flatMap (fun i => [x i, y i])).getD (2 * i + 1) [] = y i := by
  induction k with
  | zero => omega
  | succ k ih =>
    have hl : ((List.range k).flatMap (fun i => [x i, y i])).length = 2 * k := flat2_length k _ (fun _ => rfl)
    rw [List.range_succ, List.flatMap_append, List.getD_eq_getElem?_getD]
    by_cases e : i = k
    · subst e
      rw [List.getElem?_append_right (by rw [hl]; omega), hl, show 2 * i + 1 - 2 * i = 1 from by omega]
      simp
    · rw [List.getElem?_append_left (by rw [hl]; omega), ← List.getD_eq_getElem?_getD]
      exact ih (by omega)
theorem rowsF_odd {s d : List Int} (ho : arrOk s d = true) (hs : s ≠ []) {i : Nat} (hi : i < rowsN s) : (rowsF s d).getD (2 * i + 1) [] = rowAt s d i := by
  unfold rowsF
  rw [if_pos ⟨ho, hs⟩]
  exact flat2_odd (fun _ => s.drop 1) (fun i => (d.drop (i * (sizeV (s.drop 1)).toNat)).take (sizeV (s.drop 1)).toNat) hi
theorem flat_bound (n m : Nat) (f : Nat → List Int) (h : ∀ i, (f i).length ≤ m) : ((List.range n).flatMap f).length ≤ n * m := by
  induction n with
  | zero => simp
  | succ n ih =>
    rw [List.range_succ, List.flatMap_append, List.length_append]
    have := h n
    simp only [List.flatMap_cons, List.flatMap_nil, List.append_nil]
    rw [Nat.succ_mul]
    omega
theorem pick_bound (s d : List Int) (idx : Nat → Nat) {n : Nat} (hn : n ≤ 300) : (catF (pickF (rowsF s d) idx n) n).length ≤ 1000000 := by
  rw [catF_pick]
  have := flat_bound n 300 (fun i => (rowsF s d).getD (2 * idx i + 1) []) (fun i => rowsF_each s d _)
  have : n * 300 ≤ 300 * 300 := Nat.mul_le_mul_right _ hn
  omega
theorem pick_rows {s d : List Int} (ho : arrOk s d = true) (hs : s ≠ []) {idx : Nat → Nat} {n : Nat} (h : ∀ i, i < n → idx i < rowsN s) : catF (pickF (rowsF s d) idx n) n = (List.range n).flatMap (fun i => rowAt s d (idx i)) := by
  rw [catF_pick, List.flatMap_def, List.flatMap_def]
  congr 1
  apply List.map_congr_left
  intro i hi
  exact rowsF_odd ho hs (h i (by simpa using hi))
theorem rowsN_bd {s d : List Int} (ho : arrOk s d = true) : rowsN s ≤ 300 ∧ s.getD 0 0 = (rowsN s : Int) := by
  have := head_bd ho
  unfold rowsN
  omega
theorem cons_eta {s : List Int} (h : s ≠ []) : s.getD 0 0 :: s.drop 1 = s := by
  cases s with
  | nil => exact absurd rfl h
  | cons x l => rfl
theorem l3rows_ne {s d : List Int} {w : World} {v : Value} (h : ArrI w v s d) (ho : arrOk s d = true) (hs : s ≠ []) :
    Calls Tryz.prog 30 #[v] w fun e w' => ∃ v', e = .returned v' ∧ Arrs w.heap.size w'.heap.size w' v' (rowsF s d) ∧ Below w.heap.size w w' := by
  cases s with
  | nil => exact absurd rfl hs
  | cons x l => exact l3rows_spec h ho
theorem l3rows_capne {s d : List Int} {w : World} {v : Value} (h : ArrI w v s d) (ho : arrOk s d = true) (hs : s ≠ []) :
    Calls Tryz.prog 30 #[v] w fun e w' => ∃ v', e = .returned v' ∧ Arrs w.heap.size w'.heap.size w' v' (rowsF s d) ∧ Below w.heap.size w w' ∧ CapOk v' := by
  cases s with
  | nil => exact absurd rfl hs
  | cons x l => exact l3rows_cap h ho
theorem tail_cut_ne {w : World} {a : Option Addr} {s : List Int} {c : Nat} (h : Ints w a s) (hs : s ≠ []) (hc : s.length ≤ c) :
    ∃ tl ct, (∀ W, (Instr.slice 24 (.slice a s.length c) (some (.int .i64 1)) none none).run Tryz.prog W = .ok (.slice tl (s.drop 1).length ct) W) ∧ IntsI w (.slice tl (s.drop 1).length ct) (s.drop 1) := by
  cases s with
  | nil => exact absurd rfl hs
  | cons x l => exact tail_cut h hc
end Go.Proofs.YtcpgdhffemecbaaGreat
namespace Go.Proofs.YtcpgdhffemecbaaGreat
open Go.RowKit
set_option linter.unusedVariables false
set_option linter.unusedSimpArgs false
theorem blocks3 (w : World) (A B C : Obj) : (((w.alloc A).alloc B).alloc C).heap[w.heap.size]? = some A ∧ (((w.alloc A).alloc B).alloc C).heap[w.heap.size + 1]? = some B ∧ (((w.alloc A).alloc B).alloc C).heap[w.heap.size + 1 + 1]? = some C := by
  have e1 := heap_alloc_new w A
  have e2 := heap_alloc_new (w.alloc A) B
  have e3 := heap_alloc_new ((w.alloc A).alloc B) C
  simp only [World.size_alloc] at e2 e3
  refine ⟨?_, ?_, e3⟩
  · rw [heap_alloc_old _ _ (by simp only [World.size_alloc]; omega), heap_alloc_old _ _ (by simp only [World.size_alloc]; omega)]; exact e1
  · rw [heap_alloc_old _ _ (by simp only [World.size_alloc]; omega)]; exact e2
theorem one_list {d : List Int} (h : d.length = 1) : d = [d.getD 0 0] := by
  match d, h with
  | [x], _ => rfl
end Go.Proofs.YtcpgdhffemecbaaGreat
namespace Go.Proofs.YtcpgdhffemecbaaGreat
open Go.RowKit
set_option linter.unusedVariables false
set_option linter.unusedSimpArgs false
theorem oneC_ok {s d t e : List Int} (ho : arrOk s d = true) (ho' : arrOk t e = true) (hl : d.length = 1) : oneC s d t e = 0 := by unfold oneC; rw [if_pos ⟨ho, ho'⟩, if_neg (by simpa using hl)]
theorem oneC_3 {s d t e : List Int} (ho : arrOk s d = true) (ho' : arrOk t e = true) (hl : ¬ d.length = 1) : oneC s d t e = 3 := by unfold oneC; rw [if_pos ⟨ho, ho'⟩, if_pos hl]
theorem num_bd {s d : List Int} (ho : arrOk s d = true) (h : 0 < d.length) : -1000000000000 ≤ d.getD 0 0 ∧ d.getD 0 0 ≤ 1000000000000 := by
  have h2 : d.all ok = true := by
    unfold arrOk at ho
    simp only [Bool.and_eq_true] at ho
    exact ho.2
  have := List.all_eq_true.1 h2 (d.getD 0 0) (by simp [h])
  exact ok_bd this
theorem wrap64_small {a : Int} (h1 : -1000000000000000 ≤ a) (h2 : a ≤ 1000000000000000) : wrap64 a = a := by unfold wrap64; omega
theorem turn_num {x : Int} {n : Nat} (hn : 0 < n) : (Int.tmod (Int.tmod x n + n) n) = ((rotateBy x n : Nat) : Int) ∧ rotateBy x n < n ∧ -(n : Int) < Int.tmod x n ∧ Int.tmod x n < n := by
  unfold rotateBy
  have h0 : (0 : Int) < (n : Int) := by omega
  have e1 := Int.emod_nonneg x (b := (n : Int)) (by omega)
  have e2 := Int.emod_lt_of_pos x h0
  have hb : -(n : Int) < Int.tmod x n ∧ Int.tmod x n < n := ⟨by have := Int.lt_tmod_of_pos x h0; omega, Int.tmod_lt_of_pos x h0⟩
  refine ⟨?_, by omega, hb⟩
  rw [Int.tmod_eq_emod_of_nonneg (by omega), Int.add_emod_right]
  rw [Int.toNat_of_nonneg e1]
  have e := Int.tmod_add_mul_tdiv x n
  conv => rhs; rw [← e]
  rw [Int.add_mul_emod_self_left]
end Go.Proofs.YtcpgdhffemecbaaGreat
namespace Go.Proofs.YtcpgdhffemecbaaGreat
open Go.RowKit
set_option linter.unusedVariables false
set_option linter.unusedSimpArgs false
theorem arrsI_sub {w : World} {o off n c m M : Nat} {F : List (List Int)} {a' : Option Addr} {c' : Nat} (h : ArrsI w (.slice (some ⟨o, off, none⟩) n c) F) (hM : M + m ≤ n) (ha : m = 0 ∨ a' = some ⟨o, off + M * 2, none⟩) : ArrsI w (.slice a' m c') ((F.drop (2 * M)).take (2 * m)) := by
  obtain ⟨a, n', c'', e, hF, h⟩ := h
  cases e
  have hl : ((F.drop (2 * M)).take (2 * m)).length = 2 * m := by simp; omega
  refine ⟨a', m, c', rfl, hl, ?_⟩
  rcases ha with h0 | rfl
  · exact .inl h0
  · by_cases h0 : m = 0
    · exact .inl h0
    · rcases h with h | ⟨o', off', xs, e, ho, hx, hj⟩
      · omega
      · cases e
        refine .inr ⟨o, off + M * 2, (xs.drop (2 * M)).take (2 * m), rfl, ho, by simp; omega, fun j hj' => ?_⟩
        have hj2 : j < 2 * m := by simp at hj'; omega
        obtain ⟨q1, q2⟩ := hj (2 * M + j) (by omega)
        have e1 : ((xs.drop (2 * M)).take (2 * m)).getD j undef = xs.getD (2 * M + j) undef := by simp [List.getD, List.getElem?_take_of_lt hj2]
        have e2 : ((F.drop (2 * M)).take (2 * m)).getD j [] = F.getD (2 * M + j) [] := by simp [List.getD, List.getElem?_take_of_lt hj2]
        rw [e1, e2]
        refine ⟨?_, q2⟩
        rw [show off + M * 2 + j = off + (2 * M + j) from by omega]
        exact q1
/-- A list of arrays from one on. -/
theorem arrs_from {w : World} {a : Option Addr} {n c M : Nat} {F : List (List Int)} (h : ArrsI w (.slice a n c) F) (hc : n ≤ c) (hM : M ≤ n) :
    ∃ a' c', (∀ W, (Instr.slice 32 (.slice a n c) (some (.int .i64 (M : Int))) none none).run Tryz.prog W = .ok (.slice a' (n - M) c') W) ∧ ArrsI w (.slice a' (n - M) c') ((F.drop (2 * M)).take (2 * (n - M))) := by
  have hrun : ∀ W, (Instr.slice 32 (.slice a n c) (some (.int .i64 (M : Int))) none none).run Tryz.prog W = .ok (sliced a M n c 2) W := by
    intro W
    have hs : (sizeOf 26).run Tryz.prog W = .ok 2 W := by kernel_rfl
    have he : Tryz.prog.elem 32 = 26 := by kernel_rfl
    rw [run_slice_l (P := Tryz.prog) (w := W) 32 a n c (by rw [he]; exact Tryz.underlying32) .i64 (M : Int) (by omega) (by omega), he, hs]
    simp [Result.andThen]
  refine ⟨_, _, hrun, ?_⟩
  by_cases h0 : n - M = 0
  · rw [h0]
    exact ⟨_, 0, _, rfl, by simp, .inl rfl⟩
  · obtain ⟨o, off, _, _, rfl, _⟩ := h.at (k := M) (by omega)
    refine arrsI_sub h (by omega) (.inr ?_)
    rw [if_neg (by omega)]
    simp [Addr.add]
/-- A list of arrays up to one. -/
theorem arrs_upto {w : World} {a : Option Addr} {n c m : Nat} {F : List (List Int)} (h : ArrsI w (.slice a n c) F) (hc : n ≤ c) (hm : m ≤ n) :
    ∃ a' c', (∀ W, (Instr.slice 32 (.slice a n c) none (some (.int .i64 (m : Int))) none).run Tryz.prog W = .ok (.slice a' m c') W) ∧ ArrsI w (.slice a' m c') ((F.drop 0).take (2 * m)) := by
  have hrun : ∀ W, (Instr.slice 32 (.slice a n c) none (some (.int .i64 (m : Int))) none).run Tryz.prog W = .ok (sliced a 0 m c 2) W := by
    intro W
    have hs : (sizeOf 26).run Tryz.prog W = .ok 2 W := by kernel_rfl
    have he : Tryz.prog.elem 32 = 26 := by kernel_rfl
    rw [run_slice_h (P := Tryz.prog) (w := W) 32 a n c (by rw [he]; exact Tryz.underlying32) .i64 (m : Int) (by omega) (by omega), he, hs]
    simp [Result.andThen]
  refine ⟨_, _, hrun, ?_⟩
  by_cases h0 : m = 0
  · subst h0
    exact ⟨_, 0, _, rfl, by simp, .inl rfl⟩
  · obtain ⟨o, off, _, _, rfl, _⟩ := h.at (k := 0) (by omega)
    have := arrsI_sub (M := 0) (m := m) (a' := some ⟨o, off, none⟩) (c' := c - 0) h (by omega) (.inr (by simp))
    simpa [sliced, Addr.add] using this
theorem vec_ok {t e : List Int} (h : arrOk t e = true) : arrOk (vecS t e) e = true ∧ vecS t e ≠ [] := by
  unfold vecS
  by_cases ht : t = []
  · subst ht
    rw [if_pos rfl]
    have z := arrOk_size h
    rw [sizeV_0'] at z
    have hl : e.length = 1 := by omega
    refine ⟨?_, by simp⟩
    have h2 : e.all ok = true := by
      unfold arrOk at h
      simp only [Bool.and_eq_true] at h
      exact h.2
    unfold arrOk
    rw [h2, hl]
    decide
  · rw [if_neg ht]; exact ⟨h, ht⟩
end Go.Proofs.YtcpgdhffemecbaaGreat
namespace Go.Proofs.YtcpgdhffemecbaaGreat
open Go.RowKit
set_option linter.unusedVariables false
set_option linter.unusedSimpArgs false
/-- One array of one's own more. -/
theorem RI.grow {B : Nat} {w0 wr w2 : World} {v : Value} {k : Nat} {xs : List Value} {F : List (List Int)} {x y : Value} (h : RI B w0 wr v k xs F) (hk : k < 1000000) (hb : Below wr.heap.size wr w2)
    (ha : Arr wr.heap.size w2.heap.size w2 (.agg #[x, y]) (F.getD (2 * k) []) (F.getD (2 * k + 1) [])) :
    ∃ a' c' w', (Builtin.append_ #[32, 32] 32 #[v, .slice (some ⟨w2.heap.size, 0, none⟩) 1 1]).run Tryz.prog (w2.alloc (.cells #[x, y] 26)) = .ok (.slice a' (k + 1) c') w' ∧ RI B w0 w' (.slice a' (k + 1) c') (k + 1) (xs ++ [x, y]) F := by
  obtain ⟨i, hq, z1, z2, z3⟩ : ∃ i, Tryz.prog.info? 26 = some i ∧ i.zero = some (.agg #[.slice none 0 0, .slice none 0 0]) ∧ i.size = 2 ∧ i.bytes = 48 := by
    have hi := info_arr
    cases hq : Tryz.prog.info? 26 with
    | none => rw [hq] at hi; cases hi
    | some i => rw [hq] at hi; simp at hi; exact ⟨i, rfl, hi.1, hi.2.1, hi.2.2⟩
  obtain ⟨x', y', e', px, py, hap⟩ := ha
  obtain ⟨rfl, rfl⟩ : x = x' ∧ y = y' := by cases e'; exact ⟨rfl, rfl⟩
  obtain ⟨a1, c1, ex, _⟩ := px.ints
  obtain ⟨a2, c2, ey, _⟩ := py.ints
  have hz := hb.size
  have hB := h.size
  have hb' : Below wr.heap.size wr (w2.alloc (.cells #[x, y] 26)) := bAlloc hb _
  obtain ⟨g, cap, w', hr, h2, h3, h4, h5⟩ := run_append_lies (P := Tryz.prog) (w := w2.alloc (.cells #[x, y] 26)) 32 32 B 26 i _ 2 48 Tryz.underlying32 hq z1 z2 z3 rfl (by decide) v k xs (ownsRow_keep h.own hb') ⟨w2.heap.size, 0, none⟩ 1 1 [x, y] rfl (World.news_of_block (cs := #[x, y]) (heap_alloc_new w2 _)) (by rw [ex, ey]; simp [Value.oneCell']) (by decide) (by unfold maxLen; omega) (by omega) (by simp; omega) _ rfl
  refine ⟨_, _, w', hr, h.step hb' ?_ ?_ hap h2 h3 h4⟩
  · exact (px.keep (bAlloc (Below.refl _ _) _)).mono (Nat.le_refl _) (by simp)
  · exact (py.keep (bAlloc (Below.refl _ _) _)).mono (Nat.le_refl _) (by simp)
theorem ri_new (w : World) (F : List (List Int)) : RI w.heap.size w (w.alloc (.cells #[] 26)) (.slice (some ⟨w.heap.size, 0, none⟩) 0 0) 0 [] F :=
  ⟨⟨rfl, .inr ⟨w.heap.size, 0, #[], rfl, Nat.le_refl _, heap_alloc_new w _, Nat.le_refl _, by unfold maxLen; omega, rfl, rfl⟩⟩, fun j hj => by omega, fun i j _ hj => by omega, fun j hj => by omega, bAlloc (Below.refl _ _) _, by simp⟩
theorem catF_flat (t : List Int) (f : Nat → List Int) (n : Nat) : catF ((List.range n).flatMap (fun i => [t, f i])) n = (List.range n).flatMap f := by
  unfold catF
  rw [List.flatMap_def, List.flatMap_def]
  congr 1
  apply List.map_congr_left
  intro i hi
  exact flat2_odd (fun _ => t) f (by simpa using hi)
theorem scanR_bad {g : Int} {s d : List Int} (h : ¬ (arrOk s d = true ∧ sign2 g = true)) : scanR g s d = (1, [], []) := by
  unfold scanR; rw [show scanC g s d = 1 from by unfold scanC; rw [if_neg h]]; rfl
theorem scanR_nil {g : Int} {d : List Int} (h : arrOk [] d = true ∧ sign2 g = true) : scanR g [] d = (0, [], d) := by
  unfold scanR; rw [show scanC g [] d = 0 from by unfold scanC; rw [if_pos h, if_pos rfl]]; unfold scanD; rw [if_pos rfl]; rfl
theorem scanR_told {g : Int} {s d : List Int} (h : arrOk s d = true ∧ sign2 g = true) (hs : s ≠ []) : scanR g s d = mkR (firstC (fun i => (scanK g s d i).1) (rowsN s)) s ((List.range (rowsN s)).flatMap (fun i => (scanK g s d i).2)) := by
  unfold scanR scanC scanD; rw [if_pos h, if_neg hs, if_neg hs]
theorem scanK_len {g : Int} {s d : List Int} (ho : arrOk s d = true) (hs : s ≠ []) (i : Nat) : (scanK g s d i).2.length ≤ 300 := redL_len (take_ok (rowsD_ok ho hs) _)
set_option maxRecDepth 20000 in
set_option maxHeartbeats 8000000 in
/-- Scan. -/
theorem scan_spec {g : Int} {s d : List Int} {w : World} {v : Value} (h : ArrI w v s d) (hs : s.length ≤ 1048576) (hd : d.length ≤ 1048576) :
    Calls Tryz.prog 8 #[.int .i64 g, v] w fun e w' => ∃ v', e = .returned (.tuple #[v', .int .i64 (scanR g s d).1]) ∧ Arr w.heap.size w'.heap.size w' v' (scanR g s d).2.1 (scanR g s d).2.2 ∧ Below w.heap.size w w' := by
  have H : Hid (ArrI w v s d) := h
  obtain ⟨a, c, b, f, rfl, h1, h2, g1, _⟩ := h
  have HS : Hid (s.length ≤ 1048576) := hs
  have HD : Hid (d.length ≤ 1048576) := hd
  by_cases hgo : arrOk s d = true ∧ sign2 g = true
  · obtain ⟨ho, hg⟩ := hgo
    have HO : Hid (arrOk s d = true) := ho
    have HG : Hid (sign2 g = true) := hg
    by_cases hs0 : s = []
    · subst hs0
      rw [scanR_nil ⟨ho, hg⟩]
      clear ho hg h1 h2 hs hd g1
      go_enter Tryz.func8, Tryz.ntmps8
      go_wp2_with fail
      refine (arrOk_spec (H.out.keep (bAlloc (bAlloc (Below.refl _ _) _) _)) HD.out).mono ?_
      rintro r w1 ⟨rfl, hb⟩
      have HB1 : Hid (Below w.heap.size w w1) := bTrans (bAlloc (bAlloc (Below.refl _ _) _) _) hb
      have X1 : Hid (Box w1 w.heap.size (.slice a 0 c) (.slice b d.length f) 26) := ((box_new w _ _ _).keep (bAlloc (Below.refl _ _) _)).keep hb
      have Y1 : Hid (Box w1 (w.heap.size + 1) (.slice none 0 0) (.slice none 0 0) 26) := (box_new2 w _ _ _ _).keep hb
      have x0 := X1.out.c0
      have x1 := X1.out.c1
      have L1 : Hid (w.heap.size + 1 < w1.heap.size) := Y1.out.lt
      clear hb
      rw [HO.out]
      go_wp2_with (go_at_call 28; refine (sign2_spec _ _).mono ?_; rintro r w9 ⟨rfl, hw9⟩; subst w9; rw [HG.out])
      refine (copy_spec (H.out.keep HB1.out) HS.out HD.out).mono ?_
      rintro r w2 ⟨v', rfl, ha, hb⟩
      obtain ⟨a', c', b', f', rfl, _, _, _, _⟩ := ha.arrI
      have HA : Hid (Arr w1.heap.size w2.heap.size w2 (.agg #[.slice a' 0 c', .slice b' d.length f']) [] d) := ha
      have HB2 : Hid (Below w.heap.size w w2) := bTrans HB1.out hb
      have Y2 : Hid (Box w2 (w.heap.size + 1) (.slice none 0 0) (.slice none 0 0) 26) := Y1.out.keep hb
      clear ha hb x0 x1
      simp only [List.length_nil]
      have y0 := Y2.out.c0
      have y1 := Y2.out.c1
      have f0 : w2.frozen? ⟨w.heap.size + 1, 0, none⟩ = false := free_at Y2.out 0
      have f1 : w2.frozen? ⟨w.heap.size + 1, 1, none⟩ = false := free_at Y2.out 1
      have HR : Hid (((w2.setCell ⟨w.heap.size + 1, 0, none⟩ (.slice a' 0 c')).setCell ⟨w.heap.size + 1, 1, none⟩ (.slice b' d.length f')).heap[w.heap.size + 1]? = some (.cells #[.slice a' 0 c', .slice b' d.length f'] 26 (0, 0))) := arr_stored Y2.out
      go_wp2
      refine bodyPost_ret (results_arr_tmp Tryz.results8 _ _ (w.heap.size + 1) _ _ rfl HR.out) rfl ?_
      refine ⟨_, rfl, ?_, below_setCell (below_setCell HB2.out (by omega) _ _) (by omega) _ _⟩
      have L := L1.out
      exact ((HA.out.setCell L _ _).setCell L _ _).mono (by omega) (by simp only [size_setCell]; omega)
    · have HS0 : Hid (s ≠ []) := hs0
      have n1 : ((s.length : Int) == 0) = false := by
        have := List.length_pos_iff.2 hs0
        simp; omega
      obtain ⟨e1, e2⟩ := rowsN_bd ho
      obtain ⟨N, hN⟩ : ∃ N, N = rowsN s := ⟨_, rfl⟩
      have hn : N ≤ 300 := by omega
      have HRK : Hid (∀ i, i < (rowsD s d).length → arrOk (s.drop 1) ((rowsD s d).getD i []) = true) := rowsD_ok ho hs0
      have HRD : Hid ((rowsD s d).length = N) := by show _ = _; rw [rowsD_len, hN]
      have HL3 : Hid (∀ W, Below w.heap.size w W → Calls Tryz.prog 30 #[.agg #[.slice a s.length c, .slice b d.length f]] W fun e w' => ∃ v', e = .returned v' ∧ Arrs W.heap.size w'.heap.size w' v' (flatR (s.drop 1) (rowsD s d)) ∧ Below W.heap.size W w' ∧ CapOk v') := fun W hb => by rw [← rowsF_flat ho hs0]; exact l3rows_capne (H.out.keep hb) ho hs0
      obtain ⟨tl, ct, hcut, hti⟩ := tail_cut_ne h1 hs0 g1
      have ETA : Hid ((N : Int) :: s.drop 1 = s) := by show _ = _; rw [hN, ← e2]; exact cons_eta hs0
      have HTL : Hid ((s.drop 1).length ≤ 1000000) := by
        have := (sizeV_ok (arrOk_shape ho)).1
        show _ ≤ _; simp; omega
      have HKL : Hid (∀ i, (scanK g s d i).2.length ≤ 300) := scanK_len ho hs0
      have HKB : Hid (((List.range N).flatMap (fun i => (scanK g s d i).2)).length ≤ 1000000) := by
        have := flat_bound N 300 (fun i => (scanK g s d i).2) (scanK_len ho hs0)
        have : N * 300 ≤ 300 * 300 := Nat.mul_le_mul_right _ hn
        show _ ≤ _; omega
      have ER := scanR_told ⟨ho, hg⟩ hs0
      rw [← hN] at ER
      have EG : Hid (firstC (fun i => (scanK g s d i).1) N = 0 → scanR g s d = (0, s, (List.range N).flatMap (fun i => (scanK g s d i).2))) := fun q => by rw [ER, q]; rfl
      have EB : Hid (∀ k, k < N → firstC (fun i => (scanK g s d i).1) k = 0 → (scanK g s d k).1 ≠ 0 → scanR g s d = ((scanK g s d k).1, [], [])) := fun k hk h0 hc => by rw [ER, firstC_stop h0 hc hk, mkR_bad hc]
      have HK : Hid (∀ k, scanK g s d k = redL g (s.drop 1) ((rowsD s d).take (k + 1))) := fun k => rfl
      generalize rowsD s d = RD at *
      generalize s.drop 1 = t at *
      generalize scanK g s d = KF at *
      have HTI : Hid (IntsI w (.slice tl t.length ct) t) := hti
      obtain ⟨FF, hFF⟩ : ∃ FF, FF = (List.range N).flatMap (fun i => [t, (KF i).2]) := ⟨_, rfl⟩
      have HFA : Hid (∀ k, k < N → FF.getD (2 * k) [] = t ∧ FF.getD (2 * k + 1) [] = (KF k).2) := fun k hk => by rw [hFF]; exact flat2_at N k (fun _ => t) (fun i => (KF i).2) hk
      have HFL : Hid (FF.length = 2 * N) := by show _ = _; rw [hFF]; exact flat2_length N _ (fun _ => rfl)
      obtain ⟨DD, hDD⟩ : ∃ DD, DD = (List.range N).flatMap (fun i => (KF i).2) := ⟨_, rfl⟩
      have HFC : Hid (catF FF N = DD) := by show _ = _; rw [hFF, hDD]; exact catF_flat t _ N
      rw [← hDD] at EG HKB
      obtain ⟨QC, hQC⟩ : ∃ QC, QC = (scanR g s d).1 := ⟨_, rfl⟩
      obtain ⟨QS, hQS⟩ : ∃ QS, QS = (scanR g s d).2.1 := ⟨_, rfl⟩
      obtain ⟨QD, hQD⟩ : ∃ QD, QD = (scanR g s d).2.2 := ⟨_, rfl⟩
      rw [← hQS, ← hQC, ← hQD]
      have EG2 : Hid (firstC (fun i => (KF i).1) N = 0 → QC = 0 ∧ QS = s ∧ QD = DD) := fun q => by rw [hQC, hQS, hQD, EG.out q]; exact ⟨rfl, rfl, rfl⟩
      have EB2 : Hid (∀ k, k < N → firstC (fun i => (KF i).1) k = 0 → (KF k).1 ≠ 0 → QC = (KF k).1 ∧ QS = [] ∧ QD = []) := fun k hk h0 hc => by rw [hQC, hQS, hQD, EB.out k hk h0 hc]; exact ⟨rfl, rfl, rfl⟩
      have HA0 : Hid (∀ W u, ArrsI W u FF → IntsI W (.slice tl t.length ct) t → Calls Tryz.prog 32 #[u, .slice tl t.length ct] W fun e w' => ∃ v', e = .returned v' ∧ Arr W.heap.size w'.heap.size w' v' s DD ∧ Below W.heap.size W w') := by
        intro W u h1 h2
        have := rows5_spec h1 h2 HFL.out (by omega) HTL.out (by rw [HFC.out]; exact HKB.out)
        rw [ETA.out, HFC.out] at this
        exact this
      clear ER EG EB ho hg h1 h2 hs hd g1 hti hs0 e1 e2 hN hFF hDD hQC hQS hQD HFC
      go_enter Tryz.func8, Tryz.ntmps8
      go_wp2_with fail
      refine (arrOk_spec (H.out.keep (bAlloc (bAlloc (Below.refl _ _) _) _)) HD.out).mono ?_
      rintro r w1 ⟨rfl, hb⟩
      have HB1 : Hid (Below w.heap.size w w1) := bTrans (bAlloc (bAlloc (Below.refl _ _) _) _) hb
      have X1 : Hid (Box w1 w.heap.size (.slice a s.length c) (.slice b d.length f) 26) := ((box_new w _ _ _).keep (bAlloc (Below.refl _ _) _)).keep hb
      have Y1 : Hid (Box w1 (w.heap.size + 1) (.slice none 0 0) (.slice none 0 0) 26) := (box_new2 w _ _ _ _).keep hb
      have x0 := X1.out.c0
      have x1 := X1.out.c1
      have L1 : Hid (w.heap.size + 1 < w1.heap.size) := Y1.out.lt
      clear hb
      rw [HO.out]
      go_wp2_with (go_at_call 28; refine (sign2_spec _ _).mono ?_; rintro r w9 ⟨rfl, hw9⟩; subst w9; rw [HG.out])
      refine (HL3.out _ HB1.out).mono ?_
      rintro r w2 ⟨v2, rfl, ha, hb, hcap⟩
      have AR : Hid (ArrsI w2 v2 (flatR t RD)) := ha.arrsI
      obtain ⟨ra, rn, rc, rfl, e5, _⟩ := ha.arrsI
      obtain rfl : rn = N := by have := HRD.out; rw [flatR_len] at e5; omega
      have hcap2 : rn ≤ rc := hcap _ _ _ rfl
      have HB2 : Hid (Below w1.heap.size w1 w2) := hb
      have X2 : Hid (Box w2 w.heap.size (.slice a s.length c) (.slice b d.length f) 26) := X1.out.keep hb
      have Y2 : Hid (Box w2 (w.heap.size + 1) (.slice none 0 0) (.slice none 0 0) 26) := Y1.out.keep hb
      clear ha hb x0 x1 e5 hcap
      go_wp2
      generalize hW : w2.alloc (.cells #[] 26) = W3
      have L3 : Hid (RI w2.heap.size w2 W3 (.slice (some ⟨w2.heap.size, 0, none⟩) 0 0) 0 [] FF) := by rw [← hW]; exact ri_new w2 FF
      clear hW
      go_loopg [7, 8] rn (fun gk u i w' => ∃ (k : Nat) (ad : Option Addr) (cd : Nat) (xs : List Value), gk = rn - k ∧ k ≤ rn ∧ u = .slice ad k cd ∧ i = .int .i64 (k : Int) ∧ firstC (fun i => (KF i).1) k = 0 ∧ RI w2.heap.size w2 w' (.slice ad k cd) k xs FF)
      case atStart => exact ⟨0, _, _, _, rfl, by omega, rfl, rfl, rfl, L3.out⟩
      case round =>
        obtain ⟨k, ad, cd, xs, rfl, hk, rfl, rfl, hF0, hL⟩ := hrel
        have LK : Hid (RI w2.heap.size w2 wr (.slice ad k cd) k xs FF) := hL
        have HF0 : Hid (firstC (fun i => (KF i).1) k = 0) := hF0
        clear hL L3 hF0
        have XR : Hid (Box wr w.heap.size (.slice a s.length c) (.slice b d.length f) 26) := X2.out.keep LK.out.below
        have YR : Hid (Box wr (w.heap.size + 1) (.slice none 0 0) (.slice none 0 0) 26) := Y2.out.keep LK.out.below
        have BR : Hid (Below w.heap.size w wr) := bTrans HB1.out (bTrans HB2.out LK.out.below)
        by_cases hlt : (k : Int) < (rn : Int)
        · have hkn : k < rn := by omega
          obtain ⟨a6, c6, hup, hAR⟩ := arrs_upto (m := k + 1) AR.out hcap2 (by omega)
          rw [List.drop_zero, flatR_take] at hAR
          have eK : ((k + 1 : Nat) : Int) = (k : Int) + 1 := by simp
          rw [eK] at hup
          have HAR : Hid (ArrsI w2 (.slice a6 (k + 1) c6) (flatR t (RD.take (k + 1)))) := hAR
          have HE : Hid (∀ W, Below wr.heap.size wr W → Calls Tryz.prog 31 #[.int .i64 g, .slice a6 (k + 1) c6, .slice tl t.length ct] W fun r w' => ∃ v', r = .returned (.tuple #[v', .int .i64 (KF k).1]) ∧ Arr W.heap.size w'.heap.size w' v' (if (KF k).1 = 0 then t else []) (KF k).2 ∧ Below W.heap.size W w') := fun W hb => by
            rw [HK.out k]
            exact l7red_spec (HAR.out.keep (bTrans LK.out.below hb)) (by intro e; have q := congrArg List.length e; rw [List.length_take, HRD.out, List.length_nil] at q; omega) (take_ok HRK.out _) (by rw [List.length_take]; omega)
          obtain ⟨C, hC⟩ : ∃ C, C = (KF k).1 := ⟨_, rfl⟩
          obtain ⟨D', hD'⟩ : ∃ D', D' = (KF k).2 := ⟨_, rfl⟩
          obtain ⟨S', hS'⟩ : ∃ S', S' = (if (KF k).1 = 0 then t else []) := ⟨_, rfl⟩
          rw [← hS', ← hC, ← hD'] at HE
          have HSH : Hid (C = 0 → S' = t) := fun q => by rw [hS', ← hC, if_pos q]
          have HCE : Hid (C = (KF k).1) := hC
          have HDE : Hid (D' = (KF k).2) := hD'
          have z0 := XR.out.c0
          have hw1 : IntKind.i64.wrap ((k : Int) + 1) = (k : Int) + 1 := by rw [IntKind.wrap_i64]; omega
          have hk1 : (k : Int) + 1 ≤ (rn : Int) := by omega
          clear hC hS' hD' hAR
          go_wp2_with fail
          go_cut [9, 10] from 29 to 54 (fun p q w' => ∃ (gN : Nat) (aN : Option Addr) (cN : Nat) (bN : Option Addr) (eN : Nat), p = .pointer (some ⟨gN, 0, none⟩) ∧ q = .int .i64 C ∧ Box w' gN (.slice aN S'.length cN) (.slice bN D'.length eN) 26 ∧ Arr wr.heap.size w'.heap.size w' (.agg #[.slice aN S'.length cN, .slice bN D'.length eN]) S' D' ∧ Below wr.heap.size wr w')
          case first =>
            have q0 := (fun O : Obj => (show (World.drew (wr.alloc O)).cell? ⟨w.heap.size, 0, none⟩ = some (.slice a s.length c) from (XR.out.keep (bAlloc (Below.refl _ _) O)).c0))
            have LZ : Hid (w.heap.size < wr.heap.size) := XR.out.lt
            go_region_held3 (fun w' => w'.cell? ⟨w.heap.size, 0, none⟩ = some (.slice a s.length c))
              (first | with_reducible assumption | simp only [*] | exact z0)
              ((go_at_call 31; refine (HE.out _ (by repeat first | exact (Below.refl _ _).drew | exact Below.refl _ _ | refine bAlloc ?_ _ | refine Below.drew ?_)).mono ?_; rintro r w5 ⟨v5, rfl, ha5, hb5⟩; obtain ⟨xa5, xc5, ya5, yc5, rfl, _, _, _, _⟩ := ha5.arrI; have HB5 : Hid (Below wr.heap.size wr w5) := bTrans (by repeat first | exact (Below.refl _ _).drew | exact Below.refl _ _ | refine bAlloc ?_ _ | refine Below.drew ?_) hb5; have HA5 : Hid (Arr _ w5.heap.size w5 (.agg #[.slice xa5 S'.length xc5, .slice ya5 D'.length yc5]) S' D') := ha5; (try have bq : Hid (Box w5 wr.heap.size (.slice none 0 0) (.slice none 0 0) 26) := Box.keep (w := World.drew (World.alloc wr (.cells #[.slice none 0 0, .slice none 0 0] 26))) (box_new wr _ _ _) hb5); have d2 := (XR.out.keep HB5.out).c0; have e2 := (fun O : Obj => (XR.out.keep (bAlloc HB5.out O)).c0); (try have m0 := bq.out.c0); (try have m1 := bq.out.c1); (try have f0 : w5.frozen? ⟨wr.heap.size, 0, none⟩ = false := free_at bq.out 0); (try have f1 : w5.frozen? ⟨wr.heap.size, 1, none⟩ = false := free_at bq.out 1); (try have t0 := (fun (_ : Hid (Box w5 wr.heap.size (.slice none 0 0) (.slice none 0 0) 26)) (x y : Value) => (((XR.out.keep HB5.out).win (win_setCell _ wr.heap.size 0 x) (.inl LZ.out)).win (win_setCell _ wr.heap.size 1 y) (.inl LZ.out)).c0) bq); clear ha5 hb5))
            all_goals
              go_wp2_with fail
              go_meet
              case rel =>
                first
                  | exact ⟨w5.heap.size, _, _, _, _, rfl, rfl, box_new w5 _ _ _, (HA5.out.keep (bAlloc (Below.refl _ _) _)).mono (by first | exact Nat.le_refl _ | simp) (by simp), bAlloc HB5.out _⟩
                  | exact ⟨wr.heap.size, _, _, _, _, rfl, rfl, arr_stored bq.out, ((HA5.out.setCell (by simp) _ _).setCell (by simp) _ _).mono (by simp) (by simp [size_setCell]), below_setCell (below_setCell HB5.out (Nat.le_refl _) _ _) (Nat.le_refl _) _ _⟩
          case rest =>
            obtain ⟨gN, aN, cN, bN, eN, rfl, rfl, hbx, har, hbl⟩ := hcut
            have HBX : Hid (Box wc gN (.slice aN S'.length cN) (.slice bN D'.length eN) 26) := hbx
            have HAR2 : Hid (Arr wr.heap.size wc.heap.size wc (.agg #[.slice aN S'.length cN, .slice bN D'.length eN]) S' D') := har
            have HBL : Hid (Below wr.heap.size wr wc) := hbl
            have YC : Hid (Box wc (w.heap.size + 1) (.slice none 0 0) (.slice none 0 0) 26) := YR.out.keep hbl
            clear hbx har hbl z0 HE
            by_cases hc : C = 0
            · obtain rfl : S' = t := HSH.out hc
              have x0 := HBX.out.c0
              have x1 := HBX.out.c1
              obtain ⟨p1, p2⟩ := HFA.out k hkn
              obtain ⟨a7, c7, w7, hr7, hl7⟩ := LK.out.grow (by omega) HBL.out (by rw [p1, p2, ← HDE.out]; exact HAR2.out)
              have R7 : Hid (_ = _) := hr7
              have L7 : Hid (RI _ _ w7 _ (k + 1) _ FF) := hl7
              have F7 : Hid (firstC (fun i => (KF i).1) (k + 1) = 0) := firstC_go HF0.out (by rw [← HCE.out]; exact hc)
              have hcb : (C != 0) = false := by simpa using hc
              clear hr7 hl7 p1 p2 hc
              go_wp2_with (at_builtin; refine wpList_append_ty rfl _ _ 32 32 rfl _ _ _ rfl rfl R7.out ?_)
              go_roundg (rn - (k + 1))
              case measure => omega
              case rel => exact ⟨k + 1, _, _, _, rfl, by omega, rfl, by go_num, F7.out, L7.out⟩
            · have hcb : (C != 0) = true := by simpa using hc
              have EF : Hid (QC = C ∧ QS = [] ∧ QD = []) := by
                have q := EB2.out k hkn HF0.out (by rw [← HCE.out]; exact hc)
                rw [← HCE.out] at q
                exact q
              have y0 := YC.out.c0
              have y1 := YC.out.c1
              have f0 : wc.frozen? ⟨w.heap.size + 1, 0, none⟩ = false := free_at YC.out 0
              have f1 : wc.frozen? ⟨w.heap.size + 1, 1, none⟩ = false := free_at YC.out 1
              have HR : Hid (((wc.setCell ⟨w.heap.size + 1, 0, none⟩ (.slice none 0 0)).setCell ⟨w.heap.size + 1, 1, none⟩ (.slice none 0 0)).heap[w.heap.size + 1]? = some (.cells #[.slice none 0 0, .slice none 0 0] 26 (0, 0))) := arr_stored YC.out
              have HBW : Hid (Below w.heap.size w wc) := bTrans BR.out HBL.out
              clear hc
              go_wp2
              refine bodyPost_ret (results_arr_tmp Tryz.results8 _ _ (w.heap.size + 1) _ _ rfl HR.out) rfl ?_
              obtain ⟨rfl, rfl, rfl⟩ := EF.out
              exact ⟨_, rfl, arr_zero _ _ _, below_setCell (below_setCell HBW.out (by omega) _ _) (by omega) _ _⟩
        · obtain rfl : k = rn := by omega
          obtain ⟨rfl, rfl, rfl⟩ := EG2.out HF0.out
          have LA : Hid (ArrsI wr (.slice ad k cd) FF) := (LK.out.done HFL.out).arrsI
          have x0 := XR.out.c0
          have x1 := XR.out.c1
          have BW : Hid (Below w1.heap.size w1 wr) := bTrans HB2.out LK.out.below
          go_wp2_with fail
          refine (HA0.out _ _ LA.out (HTI.out.keep BR.out)).mono ?_
          rintro r w8 ⟨v8, rfl, ha, hb⟩
          obtain ⟨a8, c8, b8, f8, rfl, _, _, _, _⟩ := ha.arrI
          have HA : Hid (Arr w1.heap.size w8.heap.size w8 (.agg #[.slice a8 QS.length c8, .slice b8 QD.length f8]) QS QD) := ha.mono BW.out.size (Nat.le_refl _)
          have Y8 : Hid (Box w8 (w.heap.size + 1) (.slice none 0 0) (.slice none 0 0) 26) := YR.out.keep hb
          have HB8 : Hid (Below w.heap.size w w8) := bTrans BR.out hb
          clear ha hb x0 x1
          have y0 := Y8.out.c0
          have y1 := Y8.out.c1
          have f0 : w8.frozen? ⟨w.heap.size + 1, 0, none⟩ = false := free_at Y8.out 0
          have f1 : w8.frozen? ⟨w.heap.size + 1, 1, none⟩ = false := free_at Y8.out 1
          have HR : Hid (((w8.setCell ⟨w.heap.size + 1, 0, none⟩ (.slice a8 QS.length c8)).setCell ⟨w.heap.size + 1, 1, none⟩ (.slice b8 QD.length f8)).heap[w.heap.size + 1]? = some (.cells #[.slice a8 QS.length c8, .slice b8 QD.length f8] 26 (0, 0))) := arr_stored Y8.out
          go_wp2
          refine bodyPost_ret (results_arr_tmp Tryz.results8 _ _ (w.heap.size + 1) _ _ rfl HR.out) rfl ?_
          refine ⟨_, rfl, ?_, below_setCell (below_setCell HB8.out (by omega) _ _) (by omega) _ _⟩
          have L := L1.out
          exact ((HA.out.setCell L _ _).setCell L _ _).mono (by omega) (by simp only [size_setCell]; omega)
  · rw [scanR_bad hgo]
    by_cases ho : arrOk s d = true
    · have HO : Hid (arrOk s d = true) := ho
      have HG : Hid (sign2 g = false) := by show _ = _; cases q : sign2 g <;> simp_all
      clear ho h1 h2 hs hd g1 hgo
      go_enter Tryz.func8, Tryz.ntmps8
      go_wp2_with fail
      refine (arrOk_spec (H.out.keep (bAlloc (bAlloc (Below.refl _ _) _) _)) HD.out).mono ?_
      rintro r w1 ⟨rfl, hb⟩
      have HB1 : Hid (Below w.heap.size w w1) := bTrans (bAlloc (bAlloc (Below.refl _ _) _) _) hb
      have Y1 : Hid (Box w1 (w.heap.size + 1) (.slice none 0 0) (.slice none 0 0) 26) := (box_new2 w _ _ _ _).keep hb
      clear hb
      rw [HO.out]
      have y0 := Y1.out.c0
      have y1 := Y1.out.c1
      have f0 : w1.frozen? ⟨w.heap.size + 1, 0, none⟩ = false := free_at Y1.out 0
      have f1 : w1.frozen? ⟨w.heap.size + 1, 1, none⟩ = false := free_at Y1.out 1
      have HR : Hid (((w1.setCell ⟨w.heap.size + 1, 0, none⟩ (.slice none 0 0)).setCell ⟨w.heap.size + 1, 1, none⟩ (.slice none 0 0)).heap[w.heap.size + 1]? = some (.cells #[.slice none 0 0, .slice none 0 0] 26 (0, 0))) := arr_stored Y1.out
      go_wp2_with (go_at_call 28; refine (sign2_spec _ _).mono ?_; rintro r w9 ⟨rfl, hw9⟩; subst w9; rw [HG.out])
      refine bodyPost_ret (results_arr_tmp Tryz.results8 _ _ (w.heap.size + 1) _ _ rfl HR.out) rfl ?_
      exact ⟨_, rfl, arr_zero _ _ _, below_setCell (below_setCell HB1.out (by omega) _ _) (by omega) _ _⟩
    · have HO : Hid (arrOk s d = false) := by show _ = _; simpa using ho
      clear ho h1 h2 hs hd g1 hgo
      go_enter Tryz.func8, Tryz.ntmps8
      go_wp2_with fail
      refine (arrOk_spec (H.out.keep (bAlloc (bAlloc (Below.refl _ _) _) _)) HD.out).mono ?_
      rintro r w1 ⟨rfl, hb⟩
      have HB1 : Hid (Below w.heap.size w w1) := bTrans (bAlloc (bAlloc (Below.refl _ _) _) _) hb
      have Y1 : Hid (Box w1 (w.heap.size + 1) (.slice none 0 0) (.slice none 0 0) 26) := (box_new2 w _ _ _ _).keep hb
      clear hb
      rw [HO.out]
      have y0 := Y1.out.c0
      have y1 := Y1.out.c1
      have f0 : w1.frozen? ⟨w.heap.size + 1, 0, none⟩ = false := free_at Y1.out 0
      have f1 : w1.frozen? ⟨w.heap.size + 1, 1, none⟩ = false := free_at Y1.out 1
      have HR : Hid (((w1.setCell ⟨w.heap.size + 1, 0, none⟩ (.slice none 0 0)).setCell ⟨w.heap.size + 1, 1, none⟩ (.slice none 0 0)).heap[w.heap.size + 1]? = some (.cells #[.slice none 0 0, .slice none 0 0] 26 (0, 0))) := arr_stored Y1.out
      go_wp2
      refine bodyPost_ret (results_arr_tmp Tryz.results8 _ _ (w.heap.size + 1) _ _ rfl HR.out) rfl ?_
      exact ⟨_, rfl, arr_zero _ _ _, below_setCell (below_setCell HB1.out (by omega) _ _) (by omega) _ _⟩
end Go.Proofs.YtcpgdhffemecbaaGreat
namespace Go.Proofs.YtcpgdhffemecbaaGreat
open Go.RowKit
set_option linter.unusedVariables false
set_option linter.unusedSimpArgs false
set_option maxRecDepth 20000 in
set_option maxHeartbeats 1000000 in
/-- allRight. -/
theorem allRight_impl {d : List Int} {b : Option Addr} {w : World} (e : Nat) (h : Ints w b d) (hd : d.length ≤ 1048576) :
    Calls Tryz.prog 63 #[.slice b d.length e] w fun e w' => e = .returned (.bool (d.all ok)) ∧ w' = w := by
  have HJ : Hid (Ints w b d) := h
  clear h
  go_enter Tryz.func63, Tryz.ntmps63
  go_wp2
  go_loopw [7] (fun i w' => ∃ k : Nat, k ≤ d.length ∧ i = .int .i64 k ∧ (d.take k).all ok = true ∧ w' = w) (fun i _ => d.length - (intOf i).toNat)
  case atStart => exact ⟨0, by omega, rfl, by simp, rfl⟩
  case round =>
    obtain ⟨k, hk, rfl, ht, rfl⟩ := hrel
    have HT : Hid ((d.take k).all ok = true) := ht
    clear ht
    by_cases hlt : (k : Int) < (d.length : Int)
    · have L : k < d.length := by omega
      obtain ⟨b1, o1, rfl, _, c1⟩ := HJ.out.at L
      have Q : Hid ((d.take (k + 1)).all ok = ((d.take k).all ok && ok (d.getD k 0))) := by show _ = _; rw [take_snoc L, all_snocN]
      have QB : Hid (ok (d.getD k 0) = false → d.all ok = false) := fun h => by
        rw [List.all_eq_false]
        exact ⟨d.getD k 0, by simp [L], by rw [h]; decide⟩
      clear L
      generalize d.getD k 0 = x at c1 Q QB
      by_cases hx : ok x = true
      · have HT' : Hid ((d.take (k + 1)).all ok = true) := by show _ = _; rw [Q.out, HT.out, hx]; rfl
        clear Q QB
        go_wp2_with fail
        refine (numOk_impl x _).mono ?_
        rintro r w' ⟨rfl, hw⟩
        subst w'
        go_wp2
        go_roundw
        case rel => exact ⟨k + 1, by omega, by go_num, HT'.out, by first | trivial | rfl⟩
        case measure => simp [intOf]; omega
      · have hx : ok x = false := by simpa using hx
        have HV' : Hid (d.all ok = false) := QB.out hx
        clear Q QB
        go_wp2_with fail
        refine (numOk_impl x _).mono ?_
        rintro r w' ⟨rfl, hw⟩
        subst w'
        go_wp2
        go_ret
        exact ⟨by rw [HV'.out]; rfl, rfl⟩
    · have HV' : Hid (d.all ok = true) := by
        have h := HT.out
        show _ = _
        rw [List.take_of_length_le (by omega)] at h
        exact h
      go_wp2
      go_ret
      exact ⟨by rw [HV'.out]; rfl, rfl⟩
end Go.Proofs.YtcpgdhffemecbaaGreat
namespace Go.Proofs.YtcpgdhffemecbaaGreat
open Go.RowKit
set_option linter.unusedVariables false
set_option linter.unusedSimpArgs false
set_option maxRecDepth 20000 in
/-- Out of a list into a new one of its length. -/
theorem copy_all {w : World} {a : Option Addr} {l : List Int} (h1 : Ints w a l) (ty : TypeId) (d : Nat) (Z : Array Value) (hZ : Z.size = l.length) :
    (Builtin.copy_ #[24, 24] ty #[.slice (some ⟨w.heap.size, 0, none⟩) l.length l.length, .slice a l.length d]).run Tryz.prog (w.alloc (.cells Z 3)) =
      .ok (.int .i64 l.length) (w.alloc (.cells (vals l) 3)) := by
  by_cases h0 : l.length = 0
  · obtain rfl : l = [] := List.eq_nil_of_length_eq_zero h0
    have e : Z = vals [] := by simp at hZ; simp [vals, hZ]
    rw [e]
    exact run_copy_none (P := Tryz.prog) _ 24 24 ty 3 _ _ _ _ _ _ Tryz.underlying24 int_size rfl
  · rcases h1 with rfl | ⟨b, off, rfl, hb, hc⟩
    · exact absurd rfl h0
    · have hg : (w.alloc (.cells Z 3)).heap[w.heap.size]? = some (.cells Z 3 (0, 0)) := heap_alloc_new _ _
      have hc' : ∀ k, k < l.length → (w.alloc (.cells Z 3)).cell? ⟨b, off + k, none⟩ = some (.int .i64 (l.getD k 0)) := by
        intro k hk
        rw [(bAlloc (Below.refl w.heap.size w) _).cell (p := ⟨b, off + k, none⟩) hb]
        exact hc k hk
      have q := run_copy_row Tryz.prog (w.alloc (.cells Z 3)) 24 24 ty 3 w.heap.size 0 l.length l.length ⟨b, off, none⟩ l.length d Z 3 (l.map (Value.int .i64)) Tryz.underlying24 int_size hg (by rw [List.length_map]; simp) (ints_src hc') (by simp; omega) (by intro v hv; obtain ⟨x, _, rfl⟩ := List.mem_map.1 hv; rfl)
      rw [q, setRow_last, List.length_map]
      congr 3
      simp [vals, hZ]
set_option maxHeartbeats 1000000 in
/-- copiedList: a copy in new memory. -/
theorem copied_impl {l : List Int} {a : Option Addr} {w : World} (c : Nat) (h1 : Ints w a l) (hl : l.length ≤ 1048576) :
    Calls Tryz.prog 70 #[.slice a l.length c] w fun e w' => e = .returned (.slice (some ⟨w.heap.size, 0, none⟩) l.length l.length) ∧ w' = w.alloc (.cells (vals l) 3) := by
  have hmk : ∀ w, (Instr.makeSlice 24 (.int .i64 (l.length : Int)) (.int .i64 (l.length : Int))).run Tryz.prog w = .ok (.slice (some ⟨w.heap.size, 0, none⟩) l.length l.length) (w.alloc (.cells (vals (List.replicate l.length 0)) 3)) := fun w => make_ints l.length (by omega) w
  have hcp : (Builtin.copy_ #[24, 24] 3 #[.slice (some ⟨w.heap.size, 0, none⟩) l.length l.length, .slice a l.length c]).run Tryz.prog (w.alloc (.cells (vals (List.replicate l.length 0)) 3)) = .ok (.int .i64 l.length) (w.alloc (.cells (vals l) 3)) := copy_all h1 _ c _ (by simp [vals])
  clear h1
  go_enter Tryz.func70, Tryz.ntmps70
  go_wp2
  go_ret
  exact ⟨rfl, rfl⟩
/-- copiedList, as a contract on values. -/
theorem copied_new {l : List Int} {w : World} {v : Value} (h : IntsI w v l) (hl : l.length ≤ 1048576) :
    Calls Tryz.prog 70 #[v] w fun e w' => ∃ a' c', e = .returned (.slice a' l.length c') ∧ Piece w.heap.size w'.heap.size w' (.slice a' l.length c') l ∧ Below w.heap.size w w' := by
  obtain ⟨a, c, rfl, _, i⟩ := h
  refine (copied_impl c i hl).mono ?_
  rintro e w' ⟨rfl, rfl⟩
  exact ⟨_, _, rfl, OwnInts.piece (ownInts_new w l) (Nat.le_refl _) (by simp) _, bAlloc (Below.refl _ _) _⟩
set_option maxRecDepth 20000 in
set_option maxHeartbeats 4000000 in
/-- copyOf. -/
theorem copyOf_impl {s d : List Int} {w : World} {v : Value} (h : ArrI w v s d) (hs : s.length ≤ 1048576) (hd : d.length ≤ 1048576) :
    Calls Tryz.prog 34 #[v] w fun e w' => ∃ v', e = .returned v' ∧ Arr w.heap.size w'.heap.size w' v' s d ∧ Below w.heap.size w w' := by
  obtain ⟨a, c, b, e, rfl, h1, h2, g1, g2⟩ := h
  have H1 : Hid (IntsI w (.slice a s.length c) s) := ⟨a, c, rfl, g1, h1⟩
  have H2 : Hid (IntsI w (.slice b d.length e) d) := ⟨b, e, rfl, g2, h2⟩
  have HS : Hid (s.length ≤ 1048576) := hs
  have HD : Hid (d.length ≤ 1048576) := hd
  clear h1 h2 g1 g2 hs hd
  go_enter Tryz.func34, Tryz.ntmps34
  go_wp2
  generalize hW : (w.alloc (.cells #[.slice a s.length c, .slice b d.length e] 26)).alloc (.cells #[.slice none 0 0, .slice none 0 0] 26) = W
  have HBW : Hid (Below w.heap.size w W) := by rw [← hW]; exact bAlloc (bAlloc (Below.refl _ _) _) _
  have X : Hid (Box W w.heap.size (.slice a s.length c) (.slice b d.length e) 26) := by rw [← hW]; exact heap_alloc2_old w _ _
  have Y : Hid (Box W (w.heap.size + 1) (.slice none 0 0) (.slice none 0 0) 26) := by rw [← hW]; exact heap_alloc2_new w _ _
  have LW : Hid (w.heap.size + 1 < W.heap.size) := Y.out.lt
  clear hW
  have x0 := X.out.c0
  have x1 := X.out.c1
  go_region_held3 (fun w' => w'.cell? ⟨w.heap.size, 0, none⟩ = some (.slice a s.length c) ∧ w'.cell? ⟨w.heap.size, 1, none⟩ = some (.slice b d.length e))
    (first | exact ⟨z0 _ _, z1 _ _⟩ | exact ⟨y0, y1⟩ | exact ⟨v0, v1⟩ | exact ⟨x0, x1⟩)
    (first
      | (go_at_call_of 70 (Value.slice a s.length c); refine (copied_new (H1.out.keep (bTrans HBW.out ((Below.refl W.heap.size W).drew))) HS.out).mono ?_; rintro r w1 ⟨ax, cx, rfl, ha, hb⟩; have PX : Hid (Piece W.heap.size w1.heap.size w1 (.slice ax s.length cx) s) := ha; have HB1 : Hid (Below W.heap.size W w1) := bTrans ((Below.refl W.heap.size W).drew) hb; have v0 := (X.out.keep HB1.out).c0; have v1 := (X.out.keep HB1.out).c1; clear ha hb)
      | (go_at_call_of 70 (Value.slice b d.length e); refine (copied_new (H2.out.keep (bTrans HBW.out HB1.out)) HD.out).mono ?_; rintro r w2 ⟨ay, cy, rfl, ha, hb⟩; have PY : Hid (Piece w1.heap.size w2.heap.size w2 (.slice ay d.length cy) d) := ha; have PX2 : Hid (Piece W.heap.size w1.heap.size w2 (.slice ax s.length cx) s) := PX.out.keep hb; have S12 : Hid (w1.heap.size ≤ w2.heap.size) := hb.size; have HB2 : Hid (Below W.heap.size W w2) := bTrans HB1.out hb; have y0 := (X.out.keep HB2.out).c0; have y1 := (X.out.keep HB2.out).c1; have q0 := (Y.out.keep HB2.out).c0; have q1 := (Y.out.keep HB2.out).c1; have f0 : w2.frozen? ⟨w.heap.size + 1, 0, none⟩ = false := free_at (Y.out.keep HB2.out) 0; have f1 : w2.frozen? ⟨w.heap.size + 1, 1, none⟩ = false := free_at (Y.out.keep HB2.out) 1; have z : ∀ u v, Box ((w2.setCell ⟨w.heap.size + 1, 0, none⟩ u).setCell ⟨w.heap.size + 1, 1, none⟩ v) w.heap.size (.slice a s.length c) (.slice b d.length e) 26 := (fun u v => ((X.out.keep HB2.out).win (win_setCell _ _ _ _) (.inl (Nat.lt_succ_self _))).win (win_setCell _ _ _ _) (.inl (Nat.lt_succ_self _))); have z0 := (fun u v => (z u v).c0); have z1 := (fun u v => (z u v).c1); have HR : Hid (((w2.setCell ⟨w.heap.size + 1, 0, none⟩ (.slice ax s.length cx)).setCell ⟨w.heap.size + 1, 1, none⟩ (.slice ay d.length cy)).heap[w.heap.size + 1]? = some (.cells #[.slice ax s.length cx, .slice ay d.length cy] 26 (0, 0))) := arr_stored (Y.out.keep HB2.out); clear ha hb z))
  go_wp2
  refine bodyPost_ret (v := .agg #[.slice ax s.length cx, .slice ay d.length cy]) (results_arr rfl _ _ (w.heap.size + 1) _ _ rfl HR.out) rfl ?_
  refine ⟨_, rfl, ?_, below_setCell (below_setCell (bTrans HBW.out HB2.out) (by omega) _ _) (by omega) _ _⟩
  have S1 := HB1.out.size
  have S2 := S12.out
  have S3 := LW.out
  have A : Arr W.heap.size w2.heap.size w2 (.agg #[.slice ax s.length cx, .slice ay d.length cy]) s d := ⟨_, _, rfl, PX2.out.mono (Nat.le_refl _) S12.out, PY.out.mono S1 (Nat.le_refl _), PX2.out.apart PY.out (.inl (Nat.le_refl _))⟩
  exact ((A.setCell S3 _ _).setCell S3 _ _).mono (by omega) (by simp [size_setCell])
end Go.Proofs.YtcpgdhffemecbaaGreat
namespace Go.Proofs.YtcpgdhffemecbaaGreat
open Go.RowKit
set_option linter.unusedVariables false
/-- Arrays of three numbers, compared as a whole. -/
theorem eq_axes (w : World) (i j k i' j' k' : Int) : (Op.equalIn 10000 94 (.agg #[.int .i64 i, .int .i64 j, .int .i64 k]) (.agg #[.int .i64 i', .int .i64 j', .int .i64 k'])).run Tryz.prog w = .ok (i == i' && (j == j' && k == k')) w := by
  have hs : (sizeOf 3).run Tryz.prog w = .ok 1 w := by kernel_rfl
  have p0 : ∀ a b c : Int, (part 3 #[.int .i64 a, .int .i64 b, .int .i64 c] 0).run Tryz.prog w = .ok (.int .i64 a) w := fun a b c => by kernel_rfl
  have p1 : ∀ a b c : Int, (part 3 #[.int .i64 a, .int .i64 b, .int .i64 c] 1).run Tryz.prog w = .ok (.int .i64 b) w := fun a b c => by kernel_rfl
  have p2 : ∀ a b c : Int, (part 3 #[.int .i64 a, .int .i64 b, .int .i64 c] 2).run Tryz.prog w = .ok (.int .i64 c) w := fun a b c => by kernel_rfl
  have ei : ∀ a b : Int, (Op.equalIn (9998 + 1) 3 (.int .i64 a) (.int .i64 b)).run Tryz.prog w = .ok (a == b) w := fun a b => run_equalIn_int w 9998 3 .i64 .i64 a b Tryz.underlying3
  show (Op.equalIn (9998 + 1 + 1) 94 _ _).run Tryz.prog w = _
  rw [Op.equalIn]
  generalize 9998 + 1 = d at ei ⊢
  simp only [Sem.run_bind, run_underlying Tryz.underlying94, Result.andThen_ok, hs]
  simp only [Std.Legacy.Range.forIn_eq_forIn_range', Std.Legacy.Range.size, List.range', Nat.sub_zero, Nat.add_sub_cancel, Nat.div_one, List.forIn_cons, List.forIn_nil, Sem.run_bind]
  cases h0 : i == i' <;> cases h1 : j == j' <;> cases h2 : k == k' <;> simp [p0, p1, p2, ei, h0, h1, h2]
theorem newInts_2 (w : World) (A : Obj) (l : List Int) {B : Nat} (hB : B ≤ w.heap.size) (hl : l.length ≤ 1073741824) : NewInts B ((w.alloc A).alloc (.cells (vals l) 3)) (.slice (some ⟨w.heap.size + 1, 0, none⟩) l.length l.length) l := by
  have e : (w.alloc A).heap.size = w.heap.size + 1 := by simp
  rw [← e]
  exact newInts_alloc (w.alloc A) l (by omega) hl
set_option maxRecDepth 20000 in
set_option maxHeartbeats 2000000 in
theorem index_0_impl (p : Int) (a : Option Addr) (c : Nat) (w : World) (h1 : Ints w a [])  (q1 : 0 ≤ p) (q2 : p < 1)  :
    Calls Tryz.prog 86 #[.slice a 0 c, .int .i64 p] w fun e w' => ∃ v, e = .returned v ∧ NewInts w.heap.size w' v [] ∧ Below w.heap.size w w' := by
  have H1 : Hid (Ints w a []) := h1
  clear h1
  have hmk : ∀ w, (Instr.makeSlice 24 (.int .i64 0) (.int .i64 0)).run Tryz.prog w = .ok (.slice (some ⟨w.heap.size, 0, none⟩) 0 0) (w.alloc (.cells #[] 3)) := fun w => make_ints 0 (by omega) w
  go_enter Tryz.func86, Tryz.ntmps86
  go_wp2_with fail
  refine (ext_0_ok  _ _ _ H1.out ).mono ?_
  rintro e w1 ⟨rfl, hb⟩
  have HB : Hid (Below w.heap.size w w1) := hb
  clear hb
  go_wp2_with fail
  refine (idx_0_in  p _  q1 q2 (by omega)).mono ?_
  rintro e w2 ⟨rfl, o0, o1, o2, o3, hw⟩
  have HB2 : Hid (Below w.heap.size w w2) := by rw [hw]; exact bTrans (bAlloc HB.out _) (kept4 _ _ _ _ _ _)
  have hc : ∀ o : Obj, (w2.alloc o).cell? ⟨w1.heap.size, 0, none⟩ = some (.int .i64 0) := by
    intro o
    rw [hw, (bAlloc (kept4 w1 _ o0 o1 o2 o3) o).cell (p := ⟨w1.heap.size, 0, none⟩) (by simp)]
    exact cell_new _ _ _ rfl
  clear hw
  have hcp : (Builtin.copy_ #[24, 24] 3 #[.slice (some ⟨w2.heap.size + 1, 0, none⟩) 0 0, .slice (some ⟨w2.heap.size, 0, none⟩) 3 3]).run Tryz.prog ((w2.alloc (.cells #[.int .i64 0, .int .i64 0, .int .i64 0] 94)).alloc (.cells #[] 3)) = .ok (.int .i64 0) ((w2.alloc (.cells #[.int .i64 0, .int .i64 0, .int .i64 0] 94)).alloc (.cells #[] 3)) := copy_out w2 3 94 [.int .i64 0, .int .i64 0, .int .i64 0] [] 0 (by omega) rfl rfl (by simp [Value.oneCell'])
  go_wp2
  go_ret
  exact ⟨_, rfl, newInts_2 w2 _ [] HB2.out.size (by simp), bAlloc (bAlloc HB2.out _) _⟩
set_option maxRecDepth 20000 in
set_option maxHeartbeats 2000000 in
theorem index_1_impl (x : Int) (i : Int) (p : Int) (a : Option Addr) (c : Nat) (w : World) (h1 : Ints w a [x]) (x0 : 0 < x) (x1 : x ≤ 300) (q1 : 0 ≤ p) (q2 : p < x) (e0 : p % x = i) :
    Calls Tryz.prog 86 #[.slice a 1 c, .int .i64 p] w fun e w' => ∃ v, e = .returned v ∧ NewInts w.heap.size w' v [i] ∧ Below w.heap.size w w' := by
  have H1 : Hid (Ints w a [x]) := h1
  clear h1
  have HE0 : Hid (p % x = i) := e0
  clear e0
  have hmk : ∀ w, (Instr.makeSlice 24 (.int .i64 1) (.int .i64 1)).run Tryz.prog w = .ok (.slice (some ⟨w.heap.size, 0, none⟩) 1 1) (w.alloc (.cells #[.int .i64 0] 3)) := fun w => make_ints 1 (by omega) w
  go_enter Tryz.func86, Tryz.ntmps86
  go_wp2_with fail
  refine (ext_1_ok x _ _ _ H1.out (by omega) x1).mono ?_
  rintro e w1 ⟨rfl, hb⟩
  have HB : Hid (Below w.heap.size w w1) := hb
  clear hb
  go_wp2_with fail
  refine (idx_1_in x p _ x0 x1 q1 q2 (by omega)).mono ?_
  rintro e w2 ⟨rfl, o0, o1, o2, o3, hw⟩
  have HB2 : Hid (Below w.heap.size w w2) := by rw [hw]; exact bTrans (bAlloc HB.out _) (kept4 _ _ _ _ _ _)
  have hc : ∀ o : Obj, (w2.alloc o).cell? ⟨w1.heap.size, 0, none⟩ = some (.int .i64 1) := by
    intro o
    rw [hw, (bAlloc (kept4 w1 _ o0 o1 o2 o3) o).cell (p := ⟨w1.heap.size, 0, none⟩) (by simp)]
    exact cell_new _ _ _ rfl
  clear hw
  rw [HE0.out]
  have hcp : (Builtin.copy_ #[24, 24] 3 #[.slice (some ⟨w2.heap.size + 1, 0, none⟩) 1 1, .slice (some ⟨w2.heap.size, 0, none⟩) 3 3]).run Tryz.prog ((w2.alloc (.cells #[.int .i64 i, .int .i64 0, .int .i64 0] 94)).alloc (.cells #[.int .i64 0] 3)) = .ok (.int .i64 1) ((w2.alloc (.cells #[.int .i64 i, .int .i64 0, .int .i64 0] 94)).alloc (.cells #[.int .i64 i] 3)) := copy_out w2 3 94 [.int .i64 i, .int .i64 0, .int .i64 0] [.int .i64 0] 1 (by omega) rfl rfl (by simp [Value.oneCell'])
  go_wp2
  go_ret
  exact ⟨_, rfl, newInts_2 w2 _ [i] HB2.out.size (by simp), bAlloc (bAlloc HB2.out _) _⟩
set_option maxRecDepth 20000 in
set_option maxHeartbeats 2000000 in
theorem index_2_impl (x y : Int) (i j : Int) (p : Int) (a : Option Addr) (c : Nat) (w : World) (h1 : Ints w a [x, y]) (x0 : 0 < x) (x1 : x ≤ 300) (y0 : 0 < y) (y1 : y ≤ 300) (hp : x * y ≤ 300) (q1 : 0 ≤ p) (q2 : p < x * y) (e0 : p / y % x = i) (e1 : p % y = j) :
    Calls Tryz.prog 86 #[.slice a 2 c, .int .i64 p] w fun e w' => ∃ v, e = .returned v ∧ NewInts w.heap.size w' v [i, j] ∧ Below w.heap.size w w' := by
  have H1 : Hid (Ints w a [x, y]) := h1
  clear h1
  have HE0 : Hid (p / y % x = i) := e0
  clear e0
  have HE1 : Hid (p % y = j) := e1
  clear e1
  have hmk : ∀ w, (Instr.makeSlice 24 (.int .i64 2) (.int .i64 2)).run Tryz.prog w = .ok (.slice (some ⟨w.heap.size, 0, none⟩) 2 2) (w.alloc (.cells #[.int .i64 0, .int .i64 0] 3)) := fun w => make_ints 2 (by omega) w
  go_enter Tryz.func86, Tryz.ntmps86
  go_wp2_with fail
  refine (ext_2_ok x y _ _ _ H1.out (by omega) x1 (by omega) y1 hp).mono ?_
  rintro e w1 ⟨rfl, hb⟩
  have HB : Hid (Below w.heap.size w w1) := hb
  clear hb
  go_wp2_with fail
  refine (idx_2_in x y p _ x0 x1 y0 y1 q1 q2 (by omega)).mono ?_
  rintro e w2 ⟨rfl, o0, o1, o2, o3, hw⟩
  have HB2 : Hid (Below w.heap.size w w2) := by rw [hw]; exact bTrans (bAlloc HB.out _) (kept4 _ _ _ _ _ _)
  have hc : ∀ o : Obj, (w2.alloc o).cell? ⟨w1.heap.size, 0, none⟩ = some (.int .i64 2) := by
    intro o
    rw [hw, (bAlloc (kept4 w1 _ o0 o1 o2 o3) o).cell (p := ⟨w1.heap.size, 0, none⟩) (by simp)]
    exact cell_new _ _ _ rfl
  clear hw
  rw [HE0.out, HE1.out]
  have hcp : (Builtin.copy_ #[24, 24] 3 #[.slice (some ⟨w2.heap.size + 1, 0, none⟩) 2 2, .slice (some ⟨w2.heap.size, 0, none⟩) 3 3]).run Tryz.prog ((w2.alloc (.cells #[.int .i64 i, .int .i64 j, .int .i64 0] 94)).alloc (.cells #[.int .i64 0, .int .i64 0] 3)) = .ok (.int .i64 2) ((w2.alloc (.cells #[.int .i64 i, .int .i64 j, .int .i64 0] 94)).alloc (.cells #[.int .i64 i, .int .i64 j] 3)) := copy_out w2 3 94 [.int .i64 i, .int .i64 j, .int .i64 0] [.int .i64 0, .int .i64 0] 2 (by omega) rfl rfl (by simp [Value.oneCell'])
  go_wp2
  go_ret
  exact ⟨_, rfl, newInts_2 w2 _ [i, j] HB2.out.size (by simp), bAlloc (bAlloc HB2.out _) _⟩
set_option maxRecDepth 20000 in
set_option maxHeartbeats 2000000 in
theorem index_3_impl (x y z : Int) (i j k : Int) (p : Int) (a : Option Addr) (c : Nat) (w : World) (h1 : Ints w a [x, y, z]) (x0 : 0 < x) (x1 : x ≤ 300) (y0 : 0 < y) (y1 : y ≤ 300) (z0 : 0 < z) (z1 : z ≤ 300) (hp : x * y * z ≤ 300) (q1 : 0 ≤ p) (q2 : p < x * y * z) (e0 : p / z / y % x = i) (e1 : p / z % y = j) (e2 : p % z = k) :
    Calls Tryz.prog 86 #[.slice a 3 c, .int .i64 p] w fun e w' => ∃ v, e = .returned v ∧ NewInts w.heap.size w' v [i, j, k] ∧ Below w.heap.size w w' := by
  have H1 : Hid (Ints w a [x, y, z]) := h1
  clear h1
  have HE0 : Hid (p / z / y % x = i) := e0
  clear e0
  have HE1 : Hid (p / z % y = j) := e1
  clear e1
  have HE2 : Hid (p % z = k) := e2
  clear e2
  have hmk : ∀ w, (Instr.makeSlice 24 (.int .i64 3) (.int .i64 3)).run Tryz.prog w = .ok (.slice (some ⟨w.heap.size, 0, none⟩) 3 3) (w.alloc (.cells #[.int .i64 0, .int .i64 0, .int .i64 0] 3)) := fun w => make_ints 3 (by omega) w
  go_enter Tryz.func86, Tryz.ntmps86
  go_wp2_with fail
  refine (ext_3_ok x y z _ _ _ H1.out (by omega) x1 (by omega) y1 (by omega) z1 hp).mono ?_
  rintro e w1 ⟨rfl, hb⟩
  have HB : Hid (Below w.heap.size w w1) := hb
  clear hb
  go_wp2_with fail
  refine (idx_3_in x y z p _ x0 x1 y0 y1 z0 z1 q1 q2 (by omega)).mono ?_
  rintro e w2 ⟨rfl, o0, o1, o2, o3, hw⟩
  have HB2 : Hid (Below w.heap.size w w2) := by rw [hw]; exact bTrans (bAlloc HB.out _) (kept4 _ _ _ _ _ _)
  have hc : ∀ o : Obj, (w2.alloc o).cell? ⟨w1.heap.size, 0, none⟩ = some (.int .i64 3) := by
    intro o
    rw [hw, (bAlloc (kept4 w1 _ o0 o1 o2 o3) o).cell (p := ⟨w1.heap.size, 0, none⟩) (by simp)]
    exact cell_new _ _ _ rfl
  clear hw
  rw [HE0.out, HE1.out, HE2.out]
  have hcp : (Builtin.copy_ #[24, 24] 3 #[.slice (some ⟨w2.heap.size + 1, 0, none⟩) 3 3, .slice (some ⟨w2.heap.size, 0, none⟩) 3 3]).run Tryz.prog ((w2.alloc (.cells #[.int .i64 i, .int .i64 j, .int .i64 k] 94)).alloc (.cells #[.int .i64 0, .int .i64 0, .int .i64 0] 3)) = .ok (.int .i64 3) ((w2.alloc (.cells #[.int .i64 i, .int .i64 j, .int .i64 k] 94)).alloc (.cells #[.int .i64 i, .int .i64 j, .int .i64 k] 3)) := copy_out w2 3 94 [.int .i64 i, .int .i64 j, .int .i64 k] [.int .i64 0, .int .i64 0, .int .i64 0] 3 (by omega) rfl rfl (by simp [Value.oneCell'])
  go_wp2
  go_ret
  exact ⟨_, rfl, newInts_2 w2 _ [i, j, k] HB2.out.size (by simp), bAlloc (bAlloc HB2.out _) _⟩
set_option maxRecDepth 20000 in
set_option maxHeartbeats 2000000 in
theorem place_0_hit (P : Int) (a b : Option Addr) (c d : Nat) (w : World) (h1 : Ints w a []) (h2 : Ints w b []) (hP : 0 = P)  (q1 : 0 ≤ P) (q2 : P < 1)  (hB : ((0 : Int) == 0 && ((0 : Int) == 0 && ((0 : Int) == 0))) = true) :
    Calls Tryz.prog 87 #[.slice a 0 c, .slice b 0 d] w fun e w' => e = .returned (.int .i64 P) ∧ Below w.heap.size w w' := by
  have H1 : Hid (Ints w a []) := h1
  have H2 : Hid (Ints w b []) := h2
  have HR : Hid (∀ w, Calls Tryz.prog 106 #[.agg #[.int .i64 0, .int .i64 0, .int .i64 0, .int .i64 0], .agg #[.int .i64 0, .int .i64 0, .int .i64 0]] w fun e w' => e = .returned (.int .i64 P) ∧ ∃ o p, w' = (w.alloc o).alloc p) := by
    intro w
    rw [← hP]
    exact reck_0_ext   w
  have heq : ∀ w, (Op.equalIn 10000 94 (.agg #[.int .i64 0, .int .i64 0, .int .i64 0]) (.agg #[.int .i64 0, .int .i64 0, .int .i64 0])).run Tryz.prog w = .ok true w := fun w => by rw [eq_axes, hB]
  clear hB
  clear h1 h2 hP
  go_enter Tryz.func87, Tryz.ntmps87
  go_wp2_with fail
  refine (ext_0_ok  _ _ _ H1.out ).mono ?_
  rintro e w1 ⟨rfl, hb⟩
  have HB : Hid (Below w.heap.size w w1) := hb
  have hcp : (Builtin.copy_ #[24, 24] 3 #[.slice (some ⟨w1.heap.size + 1, 0, none⟩) 3 3, .slice b 0 d]).run Tryz.prog ((w1.alloc (.cells #[.int .i64 0, .int .i64 0, .int .i64 0, .int .i64 0] 96)).alloc (.cells #[.int .i64 0, .int .i64 0, .int .i64 0] 94)) = .ok (.int .i64 0) ((w1.alloc (.cells #[.int .i64 0, .int .i64 0, .int .i64 0, .int .i64 0] 96)).alloc (.cells #[.int .i64 0, .int .i64 0, .int .i64 0] 94)) := by
    have q := copy_in ((H2.out.keep hb).alloc (.cells #[.int .i64 0, .int .i64 0, .int .i64 0, .int .i64 0] 96)) 3 94 d (by simp)
    rw [show (w1.alloc (.cells #[.int .i64 0, .int .i64 0, .int .i64 0, .int .i64 0] 96)).heap.size = w1.heap.size + 1 by simp] at q
    exact q
  clear hb
  go_wp2_with fail
  refine (HR.out _).mono ?_
  rintro e w3 ⟨rfl, o, p, hw⟩
  subst w3
  go_wp2_with fail
  refine (idx_0_in  P _  q1 q2 (by omega)).mono ?_
  rintro e w2 ⟨rfl, o0, o1, o2, o3, hw⟩
  subst w2
  go_wp2
  go_ret
  exact ⟨rfl, by repeat first | exact HB.out | refine bAlloc ?_ _⟩
set_option maxRecDepth 20000 in
set_option maxHeartbeats 2000000 in
theorem place_1_hit (x : Int) (i : Int) (i' : Int) (P : Int) (a b : Option Addr) (c d : Nat) (w : World) (h1 : Ints w a [x]) (h2 : Ints w b [i]) (hP : wrap64 i = P) (x0 : 0 < x) (x1 : x ≤ 300) (q1 : 0 ≤ P) (q2 : P < x) (e0 : P % x = i') (hB : (i' == i && ((0 : Int) == 0 && ((0 : Int) == 0))) = true) :
    Calls Tryz.prog 87 #[.slice a 1 c, .slice b 1 d] w fun e w' => e = .returned (.int .i64 P) ∧ Below w.heap.size w w' := by
  have H1 : Hid (Ints w a [x]) := h1
  have H2 : Hid (Ints w b [i]) := h2
  have HR : Hid (∀ w, Calls Tryz.prog 106 #[.agg #[.int .i64 1, .int .i64 x, .int .i64 0, .int .i64 0], .agg #[.int .i64 i, .int .i64 0, .int .i64 0]] w fun e w' => e = .returned (.int .i64 P) ∧ ∃ o p, w' = (w.alloc o).alloc p) := by
    intro w
    rw [← hP]
    exact reck_1_ext x i w
  have HE0 : Hid (P % x = i') := e0
  have heq : ∀ w, (Op.equalIn 10000 94 (.agg #[.int .i64 i', .int .i64 0, .int .i64 0]) (.agg #[.int .i64 i, .int .i64 0, .int .i64 0])).run Tryz.prog w = .ok true w := fun w => by rw [eq_axes, hB]
  clear hB e0
  clear h1 h2 hP
  go_enter Tryz.func87, Tryz.ntmps87
  go_wp2_with fail
  refine (ext_1_ok x _ _ _ H1.out (by omega) x1).mono ?_
  rintro e w1 ⟨rfl, hb⟩
  have HB : Hid (Below w.heap.size w w1) := hb
  have hcp : (Builtin.copy_ #[24, 24] 3 #[.slice (some ⟨w1.heap.size + 1, 0, none⟩) 3 3, .slice b 1 d]).run Tryz.prog ((w1.alloc (.cells #[.int .i64 1, .int .i64 x, .int .i64 0, .int .i64 0] 96)).alloc (.cells #[.int .i64 0, .int .i64 0, .int .i64 0] 94)) = .ok (.int .i64 1) ((w1.alloc (.cells #[.int .i64 1, .int .i64 x, .int .i64 0, .int .i64 0] 96)).alloc (.cells #[.int .i64 i, .int .i64 0, .int .i64 0] 94)) := by
    have q := copy_in ((H2.out.keep hb).alloc (.cells #[.int .i64 1, .int .i64 x, .int .i64 0, .int .i64 0] 96)) 3 94 d (by simp)
    rw [show (w1.alloc (.cells #[.int .i64 1, .int .i64 x, .int .i64 0, .int .i64 0] 96)).heap.size = w1.heap.size + 1 by simp] at q
    exact q
  clear hb
  go_wp2_with fail
  refine (HR.out _).mono ?_
  rintro e w3 ⟨rfl, o, p, hw⟩
  subst w3
  go_wp2_with fail
  refine (idx_1_in x P _ x0 x1 q1 q2 (by omega)).mono ?_
  rintro e w2 ⟨rfl, o0, o1, o2, o3, hw⟩
  subst w2
  rw [HE0.out]
  go_wp2
  go_ret
  exact ⟨rfl, by repeat first | exact HB.out | refine bAlloc ?_ _⟩
set_option maxRecDepth 20000 in
set_option maxHeartbeats 2000000 in
theorem place_1_miss (x : Int) (i : Int) (i' : Int) (P : Int) (a b : Option Addr) (c d : Nat) (w : World) (h1 : Ints w a [x]) (h2 : Ints w b [i]) (hP : wrap64 i = P) (x0 : 0 < x) (x1 : x ≤ 300) (q1 : 0 ≤ P) (q2 : P < x) (e0 : P % x = i') (hB : (i' == i && ((0 : Int) == 0 && ((0 : Int) == 0))) = false) :
    Calls Tryz.prog 87 #[.slice a 1 c, .slice b 1 d] w fun e w' => e = .returned (.int .i64 (-1)) ∧ Below w.heap.size w w' := by
  have H1 : Hid (Ints w a [x]) := h1
  have H2 : Hid (Ints w b [i]) := h2
  have HR : Hid (∀ w, Calls Tryz.prog 106 #[.agg #[.int .i64 1, .int .i64 x, .int .i64 0, .int .i64 0], .agg #[.int .i64 i, .int .i64 0, .int .i64 0]] w fun e w' => e = .returned (.int .i64 P) ∧ ∃ o p, w' = (w.alloc o).alloc p) := by
    intro w
    rw [← hP]
    exact reck_1_ext x i w
  have HE0 : Hid (P % x = i') := e0
  have heq : ∀ w, (Op.equalIn 10000 94 (.agg #[.int .i64 i', .int .i64 0, .int .i64 0]) (.agg #[.int .i64 i, .int .i64 0, .int .i64 0])).run Tryz.prog w = .ok false w := fun w => by rw [eq_axes, hB]
  clear hB e0
  clear h1 h2 hP
  go_enter Tryz.func87, Tryz.ntmps87
  go_wp2_with fail
  refine (ext_1_ok x _ _ _ H1.out (by omega) x1).mono ?_
  rintro e w1 ⟨rfl, hb⟩
  have HB : Hid (Below w.heap.size w w1) := hb
  have hcp : (Builtin.copy_ #[24, 24] 3 #[.slice (some ⟨w1.heap.size + 1, 0, none⟩) 3 3, .slice b 1 d]).run Tryz.prog ((w1.alloc (.cells #[.int .i64 1, .int .i64 x, .int .i64 0, .int .i64 0] 96)).alloc (.cells #[.int .i64 0, .int .i64 0, .int .i64 0] 94)) = .ok (.int .i64 1) ((w1.alloc (.cells #[.int .i64 1, .int .i64 x, .int .i64 0, .int .i64 0] 96)).alloc (.cells #[.int .i64 i, .int .i64 0, .int .i64 0] 94)) := by
    have q := copy_in ((H2.out.keep hb).alloc (.cells #[.int .i64 1, .int .i64 x, .int .i64 0, .int .i64 0] 96)) 3 94 d (by simp)
    rw [show (w1.alloc (.cells #[.int .i64 1, .int .i64 x, .int .i64 0, .int .i64 0] 96)).heap.size = w1.heap.size + 1 by simp] at q
    exact q
  clear hb
  go_wp2_with fail
  refine (HR.out _).mono ?_
  rintro e w3 ⟨rfl, o, p, hw⟩
  subst w3
  go_wp2_with fail
  refine (idx_1_in x P _ x0 x1 q1 q2 (by omega)).mono ?_
  rintro e w2 ⟨rfl, o0, o1, o2, o3, hw⟩
  subst w2
  rw [HE0.out]
  go_wp2
  go_ret
  exact ⟨rfl, by repeat first | exact HB.out | refine bAlloc ?_ _⟩
set_option maxRecDepth 20000 in
set_option maxHeartbeats 2000000 in
theorem place_1_neg (x : Int) (i : Int) (P : Int) (a b : Option Addr) (c d : Nat) (w : World) (h1 : Ints w a [x]) (h2 : Ints w b [i]) (hP : wrap64 i = P) (x0 : 0 ≤ x) (x1 : x ≤ 300) (q1 : P < 0) :
    Calls Tryz.prog 87 #[.slice a 1 c, .slice b 1 d] w fun e w' => e = .returned (.int .i64 (-1)) ∧ Below w.heap.size w w' := by
  have H1 : Hid (Ints w a [x]) := h1
  have H2 : Hid (Ints w b [i]) := h2
  have HR : Hid (∀ w, Calls Tryz.prog 106 #[.agg #[.int .i64 1, .int .i64 x, .int .i64 0, .int .i64 0], .agg #[.int .i64 i, .int .i64 0, .int .i64 0]] w fun e w' => e = .returned (.int .i64 P) ∧ ∃ o p, w' = (w.alloc o).alloc p) := by
    intro w
    rw [← hP]
    exact reck_1_ext x i w
  clear h1 h2 hP
  go_enter Tryz.func87, Tryz.ntmps87
  go_wp2_with fail
  refine (ext_1_ok x _ _ _ H1.out (by omega) x1).mono ?_
  rintro e w1 ⟨rfl, hb⟩
  have HB : Hid (Below w.heap.size w w1) := hb
  have hcp : (Builtin.copy_ #[24, 24] 3 #[.slice (some ⟨w1.heap.size + 1, 0, none⟩) 3 3, .slice b 1 d]).run Tryz.prog ((w1.alloc (.cells #[.int .i64 1, .int .i64 x, .int .i64 0, .int .i64 0] 96)).alloc (.cells #[.int .i64 0, .int .i64 0, .int .i64 0] 94)) = .ok (.int .i64 1) ((w1.alloc (.cells #[.int .i64 1, .int .i64 x, .int .i64 0, .int .i64 0] 96)).alloc (.cells #[.int .i64 i, .int .i64 0, .int .i64 0] 94)) := by
    have q := copy_in ((H2.out.keep hb).alloc (.cells #[.int .i64 1, .int .i64 x, .int .i64 0, .int .i64 0] 96)) 3 94 d (by simp)
    rw [show (w1.alloc (.cells #[.int .i64 1, .int .i64 x, .int .i64 0, .int .i64 0] 96)).heap.size = w1.heap.size + 1 by simp] at q
    exact q
  clear hb
  go_wp2_with fail
  refine (HR.out _).mono ?_
  rintro e w3 ⟨rfl, o, p, hw⟩
  subst w3
  go_wp2_with fail
  refine (idx_1_neg x P _ q1).mono ?_
  rintro e w2 ⟨rfl, o0, o1, o2, hw⟩
  subst w2
  go_wp2
  go_ret
  exact ⟨rfl, by repeat first | exact HB.out | refine bAlloc ?_ _⟩
set_option maxRecDepth 20000 in
set_option maxHeartbeats 2000000 in
theorem place_1_much (x : Int) (i : Int) (P : Int) (a b : Option Addr) (c d : Nat) (w : World) (h1 : Ints w a [x]) (h2 : Ints w b [i]) (hP : wrap64 i = P) (x0 : 0 ≤ x) (x1 : x ≤ 300) (q1 : 0 ≤ P) (q2 : x ≤ P) :
    Calls Tryz.prog 87 #[.slice a 1 c, .slice b 1 d] w fun e w' => e = .returned (.int .i64 (-1)) ∧ Below w.heap.size w w' := by
  have H1 : Hid (Ints w a [x]) := h1
  have H2 : Hid (Ints w b [i]) := h2
  have HR : Hid (∀ w, Calls Tryz.prog 106 #[.agg #[.int .i64 1, .int .i64 x, .int .i64 0, .int .i64 0], .agg #[.int .i64 i, .int .i64 0, .int .i64 0]] w fun e w' => e = .returned (.int .i64 P) ∧ ∃ o p, w' = (w.alloc o).alloc p) := by
    intro w
    rw [← hP]
    exact reck_1_ext x i w
  clear h1 h2 hP
  go_enter Tryz.func87, Tryz.ntmps87
  go_wp2_with fail
  refine (ext_1_ok x _ _ _ H1.out (by omega) x1).mono ?_
  rintro e w1 ⟨rfl, hb⟩
  have HB : Hid (Below w.heap.size w w1) := hb
  have hcp : (Builtin.copy_ #[24, 24] 3 #[.slice (some ⟨w1.heap.size + 1, 0, none⟩) 3 3, .slice b 1 d]).run Tryz.prog ((w1.alloc (.cells #[.int .i64 1, .int .i64 x, .int .i64 0, .int .i64 0] 96)).alloc (.cells #[.int .i64 0, .int .i64 0, .int .i64 0] 94)) = .ok (.int .i64 1) ((w1.alloc (.cells #[.int .i64 1, .int .i64 x, .int .i64 0, .int .i64 0] 96)).alloc (.cells #[.int .i64 i, .int .i64 0, .int .i64 0] 94)) := by
    have q := copy_in ((H2.out.keep hb).alloc (.cells #[.int .i64 1, .int .i64 x, .int .i64 0, .int .i64 0] 96)) 3 94 d (by simp)
    rw [show (w1.alloc (.cells #[.int .i64 1, .int .i64 x, .int .i64 0, .int .i64 0] 96)).heap.size = w1.heap.size + 1 by simp] at q
    exact q
  clear hb
  go_wp2_with fail
  refine (HR.out _).mono ?_
  rintro e w3 ⟨rfl, o, p, hw⟩
  subst w3
  go_wp2_with fail
  refine (idx_1_much x P _ x0 x1 q1 q2).mono ?_
  rintro e w2 ⟨rfl, o0, o1, o2, o3, hw⟩
  subst w2
  go_wp2
  go_ret
  exact ⟨rfl, by repeat first | exact HB.out | refine bAlloc ?_ _⟩
set_option maxRecDepth 20000 in
set_option maxHeartbeats 2000000 in
theorem place_2_hit (x y : Int) (i j : Int) (i' j' : Int) (P : Int) (a b : Option Addr) (c d : Nat) (w : World) (h1 : Ints w a [x, y]) (h2 : Ints w b [i, j]) (hP : wrap64 (wrap64 (wrap64 i * y) + j) = P) (x0 : 0 < x) (x1 : x ≤ 300) (y0 : 0 < y) (y1 : y ≤ 300) (hp : x * y ≤ 300) (q1 : 0 ≤ P) (q2 : P < x * y) (e0 : P / y % x = i') (e1 : P % y = j') (hB : (i' == i && (j' == j && ((0 : Int) == 0))) = true) :
    Calls Tryz.prog 87 #[.slice a 2 c, .slice b 2 d] w fun e w' => e = .returned (.int .i64 P) ∧ Below w.heap.size w w' := by
  have H1 : Hid (Ints w a [x, y]) := h1
  have H2 : Hid (Ints w b [i, j]) := h2
  have HR : Hid (∀ w, Calls Tryz.prog 106 #[.agg #[.int .i64 2, .int .i64 x, .int .i64 y, .int .i64 0], .agg #[.int .i64 i, .int .i64 j, .int .i64 0]] w fun e w' => e = .returned (.int .i64 P) ∧ ∃ o p, w' = (w.alloc o).alloc p) := by
    intro w
    rw [← hP]
    exact reck_2_ext x y i j w
  have HE0 : Hid (P / y % x = i') := e0
  have HE1 : Hid (P % y = j') := e1
  have heq : ∀ w, (Op.equalIn 10000 94 (.agg #[.int .i64 i', .int .i64 j', .int .i64 0]) (.agg #[.int .i64 i, .int .i64 j, .int .i64 0])).run Tryz.prog w = .ok true w := fun w => by rw [eq_axes, hB]
  clear hB e0 e1
  clear h1 h2 hP
  go_enter Tryz.func87, Tryz.ntmps87
  go_wp2_with fail
  refine (ext_2_ok x y _ _ _ H1.out (by omega) x1 (by omega) y1 hp).mono ?_
  rintro e w1 ⟨rfl, hb⟩
  have HB : Hid (Below w.heap.size w w1) := hb
  have hcp : (Builtin.copy_ #[24, 24] 3 #[.slice (some ⟨w1.heap.size + 1, 0, none⟩) 3 3, .slice b 2 d]).run Tryz.prog ((w1.alloc (.cells #[.int .i64 2, .int .i64 x, .int .i64 y, .int .i64 0] 96)).alloc (.cells #[.int .i64 0, .int .i64 0, .int .i64 0] 94)) = .ok (.int .i64 2) ((w1.alloc (.cells #[.int .i64 2, .int .i64 x, .int .i64 y, .int .i64 0] 96)).alloc (.cells #[.int .i64 i, .int .i64 j, .int .i64 0] 94)) := by
    have q := copy_in ((H2.out.keep hb).alloc (.cells #[.int .i64 2, .int .i64 x, .int .i64 y, .int .i64 0] 96)) 3 94 d (by simp)
    rw [show (w1.alloc (.cells #[.int .i64 2, .int .i64 x, .int .i64 y, .int .i64 0] 96)).heap.size = w1.heap.size + 1 by simp] at q
    exact q
  clear hb
  go_wp2_with fail
  refine (HR.out _).mono ?_
  rintro e w3 ⟨rfl, o, p, hw⟩
  subst w3
  go_wp2_with fail
  refine (idx_2_in x y P _ x0 x1 y0 y1 q1 q2 (by omega)).mono ?_
  rintro e w2 ⟨rfl, o0, o1, o2, o3, hw⟩
  subst w2
  rw [HE0.out, HE1.out]
  go_wp2
  go_ret
  exact ⟨rfl, by repeat first | exact HB.out | refine bAlloc ?_ _⟩
set_option maxRecDepth 20000 in
set_option maxHeartbeats 2000000 in
theorem place_2_miss (x y : Int) (i j : Int) (i' j' : Int) (P : Int) (a b : Option Addr) (c d : Nat) (w : World) (h1 : Ints w a [x, y]) (h2 : Ints w b [i, j]) (hP : wrap64 (wrap64 (wrap64 i * y) + j) = P) (x0 : 0 < x) (x1 : x ≤ 300) (y0 : 0 < y) (y1 : y ≤ 300) (hp : x * y ≤ 300) (q1 : 0 ≤ P) (q2 : P < x * y) (e0 : P / y % x = i') (e1 : P % y = j') (hB : (i' == i && (j' == j && ((0 : Int) == 0))) = false) :
    Calls Tryz.prog 87 #[.slice a 2 c, .slice b 2 d] w fun e w' => e = .returned (.int .i64 (-1)) ∧ Below w.heap.size w w' := by
  have H1 : Hid (Ints w a [x, y]) := h1
  have H2 : Hid (Ints w b [i, j]) := h2
  have HR : Hid (∀ w, Calls Tryz.prog 106 #[.agg #[.int .i64 2, .int .i64 x, .int .i64 y, .int .i64 0], .agg #[.int .i64 i, .int .i64 j, .int .i64 0]] w fun e w' => e = .returned (.int .i64 P) ∧ ∃ o p, w' = (w.alloc o).alloc p) := by
    intro w
    rw [← hP]
    exact reck_2_ext x y i j w
  have HE0 : Hid (P / y % x = i') := e0
  have HE1 : Hid (P % y = j') := e1
  have heq : ∀ w, (Op.equalIn 10000 94 (.agg #[.int .i64 i', .int .i64 j', .int .i64 0]) (.agg #[.int .i64 i, .int .i64 j, .int .i64 0])).run Tryz.prog w = .ok false w := fun w => by rw [eq_axes, hB]
  clear hB e0 e1
  clear h1 h2 hP
  go_enter Tryz.func87, Tryz.ntmps87
  go_wp2_with fail
  refine (ext_2_ok x y _ _ _ H1.out (by omega) x1 (by omega) y1 hp).mono ?_
  rintro e w1 ⟨rfl, hb⟩
  have HB : Hid (Below w.heap.size w w1) := hb
  have hcp : (Builtin.copy_ #[24, 24] 3 #[.slice (some ⟨w1.heap.size + 1, 0, none⟩) 3 3, .slice b 2 d]).run Tryz.prog ((w1.alloc (.cells #[.int .i64 2, .int .i64 x, .int .i64 y, .int .i64 0] 96)).alloc (.cells #[.int .i64 0, .int .i64 0, .int .i64 0] 94)) = .ok (.int .i64 2) ((w1.alloc (.cells #[.int .i64 2, .int .i64 x, .int .i64 y, .int .i64 0] 96)).alloc (.cells #[.int .i64 i, .int .i64 j, .int .i64 0] 94)) := by
    have q := copy_in ((H2.out.keep hb).alloc (.cells #[.int .i64 2, .int .i64 x, .int .i64 y, .int .i64 0] 96)) 3 94 d (by simp)
    rw [show (w1.alloc (.cells #[.int .i64 2, .int .i64 x, .int .i64 y, .int .i64 0] 96)).heap.size = w1.heap.size + 1 by simp] at q
    exact q
  clear hb
  go_wp2_with fail
  refine (HR.out _).mono ?_
  rintro e w3 ⟨rfl, o, p, hw⟩
  subst w3
  go_wp2_with fail
  refine (idx_2_in x y P _ x0 x1 y0 y1 q1 q2 (by omega)).mono ?_
  rintro e w2 ⟨rfl, o0, o1, o2, o3, hw⟩
  subst w2
  rw [HE0.out, HE1.out]
  go_wp2
  go_ret
  exact ⟨rfl, by repeat first | exact HB.out | refine bAlloc ?_ _⟩
set_option maxRecDepth 20000 in
set_option maxHeartbeats 2000000 in
theorem place_2_neg (x y : Int) (i j : Int) (P : Int) (a b : Option Addr) (c d : Nat) (w : World) (h1 : Ints w a [x, y]) (h2 : Ints w b [i, j]) (hP : wrap64 (wrap64 (wrap64 i * y) + j) = P) (x0 : 0 ≤ x) (x1 : x ≤ 300) (y0 : 0 ≤ y) (y1 : y ≤ 300) (hp : x * y ≤ 300) (q1 : P < 0) :
    Calls Tryz.prog 87 #[.slice a 2 c, .slice b 2 d] w fun e w' => e = .returned (.int .i64 (-1)) ∧ Below w.heap.size w w' := by
  have H1 : Hid (Ints w a [x, y]) := h1
  have H2 : Hid (Ints w b [i, j]) := h2
  have HR : Hid (∀ w, Calls Tryz.prog 106 #[.agg #[.int .i64 2, .int .i64 x, .int .i64 y, .int .i64 0], .agg #[.int .i64 i, .int .i64 j, .int .i64 0]] w fun e w' => e = .returned (.int .i64 P) ∧ ∃ o p, w' = (w.alloc o).alloc p) := by
    intro w
    rw [← hP]
    exact reck_2_ext x y i j w
  clear h1 h2 hP
  go_enter Tryz.func87, Tryz.ntmps87
  go_wp2_with fail
  refine (ext_2_ok x y _ _ _ H1.out (by omega) x1 (by omega) y1 hp).mono ?_
  rintro e w1 ⟨rfl, hb⟩
  have HB : Hid (Below w.heap.size w w1) := hb
  have hcp : (Builtin.copy_ #[24, 24] 3 #[.slice (some ⟨w1.heap.size + 1, 0, none⟩) 3 3, .slice b 2 d]).run Tryz.prog ((w1.alloc (.cells #[.int .i64 2, .int .i64 x, .int .i64 y, .int .i64 0] 96)).alloc (.cells #[.int .i64 0, .int .i64 0, .int .i64 0] 94)) = .ok (.int .i64 2) ((w1.alloc (.cells #[.int .i64 2, .int .i64 x, .int .i64 y, .int .i64 0] 96)).alloc (.cells #[.int .i64 i, .int .i64 j, .int .i64 0] 94)) := by
    have q := copy_in ((H2.out.keep hb).alloc (.cells #[.int .i64 2, .int .i64 x, .int .i64 y, .int .i64 0] 96)) 3 94 d (by simp)
    rw [show (w1.alloc (.cells #[.int .i64 2, .int .i64 x, .int .i64 y, .int .i64 0] 96)).heap.size = w1.heap.size + 1 by simp] at q
    exact q
  clear hb
  go_wp2_with fail
  refine (HR.out _).mono ?_
  rintro e w3 ⟨rfl, o, p, hw⟩
  subst w3
  go_wp2_with fail
  refine (idx_2_neg x y P _ q1).mono ?_
  rintro e w2 ⟨rfl, o0, o1, o2, hw⟩
  subst w2
  go_wp2
  go_ret
  exact ⟨rfl, by repeat first | exact HB.out | refine bAlloc ?_ _⟩
set_option maxRecDepth 20000 in
set_option maxHeartbeats 2000000 in
theorem place_2_much (x y : Int) (i j : Int) (P : Int) (a b : Option Addr) (c d : Nat) (w : World) (h1 : Ints w a [x, y]) (h2 : Ints w b [i, j]) (hP : wrap64 (wrap64 (wrap64 i * y) + j) = P) (x0 : 0 ≤ x) (x1 : x ≤ 300) (y0 : 0 ≤ y) (y1 : y ≤ 300) (hp : x * y ≤ 300) (q1 : 0 ≤ P) (q2 : x * y ≤ P) :
    Calls Tryz.prog 87 #[.slice a 2 c, .slice b 2 d] w fun e w' => e = .returned (.int .i64 (-1)) ∧ Below w.heap.size w w' := by
  have H1 : Hid (Ints w a [x, y]) := h1
  have H2 : Hid (Ints w b [i, j]) := h2
  have HR : Hid (∀ w, Calls Tryz.prog 106 #[.agg #[.int .i64 2, .int .i64 x, .int .i64 y, .int .i64 0], .agg #[.int .i64 i, .int .i64 j, .int .i64 0]] w fun e w' => e = .returned (.int .i64 P) ∧ ∃ o p, w' = (w.alloc o).alloc p) := by
    intro w
    rw [← hP]
    exact reck_2_ext x y i j w
  clear h1 h2 hP
  go_enter Tryz.func87, Tryz.ntmps87
  go_wp2_with fail
  refine (ext_2_ok x y _ _ _ H1.out (by omega) x1 (by omega) y1 hp).mono ?_
  rintro e w1 ⟨rfl, hb⟩
  have HB : Hid (Below w.heap.size w w1) := hb
  have hcp : (Builtin.copy_ #[24, 24] 3 #[.slice (some ⟨w1.heap.size + 1, 0, none⟩) 3 3, .slice b 2 d]).run Tryz.prog ((w1.alloc (.cells #[.int .i64 2, .int .i64 x, .int .i64 y, .int .i64 0] 96)).alloc (.cells #[.int .i64 0, .int .i64 0, .int .i64 0] 94)) = .ok (.int .i64 2) ((w1.alloc (.cells #[.int .i64 2, .int .i64 x, .int .i64 y, .int .i64 0] 96)).alloc (.cells #[.int .i64 i, .int .i64 j, .int .i64 0] 94)) := by
    have q := copy_in ((H2.out.keep hb).alloc (.cells #[.int .i64 2, .int .i64 x, .int .i64 y, .int .i64 0] 96)) 3 94 d (by simp)
    rw [show (w1.alloc (.cells #[.int .i64 2, .int .i64 x, .int .i64 y, .int .i64 0] 96)).heap.size = w1.heap.size + 1 by simp] at q
    exact q
  clear hb
  go_wp2_with fail
  refine (HR.out _).mono ?_
  rintro e w3 ⟨rfl, o, p, hw⟩
  subst w3
  go_wp2_with fail
  refine (idx_2_much x y P _ x0 x1 y0 y1 q1 q2).mono ?_
  rintro e w2 ⟨rfl, o0, o1, o2, o3, hw⟩
  subst w2
  go_wp2
  go_ret
  exact ⟨rfl, by repeat first | exact HB.out | refine bAlloc ?_ _⟩
set_option maxRecDepth 20000 in
set_option maxHeartbeats 2000000 in
theorem place_3_hit (x y z : Int) (i j k : Int) (i' j' k' : Int) (P : Int) (a b : Option Addr) (c d : Nat) (w : World) (h1 : Ints w a [x, y, z]) (h2 : Ints w b [i, j, k]) (hP : wrap64 (wrap64 (wrap64 (wrap64 (wrap64 i * y) + j) * z) + k) = P) (x0 : 0 < x) (x1 : x ≤ 300) (y0 : 0 < y) (y1 : y ≤ 300) (z0 : 0 < z) (z1 : z ≤ 300) (hp : x * y * z ≤ 300) (q1 : 0 ≤ P) (q2 : P < x * y * z) (e0 : P / z / y % x = i') (e1 : P / z % y = j') (e2 : P % z = k') (hB : (i' == i && (j' == j && (k' == k))) = true) :
    Calls Tryz.prog 87 #[.slice a 3 c, .slice b 3 d] w fun e w' => e = .returned (.int .i64 P) ∧ Below w.heap.size w w' := by
  have H1 : Hid (Ints w a [x, y, z]) := h1
  have H2 : Hid (Ints w b [i, j, k]) := h2
  have HR : Hid (∀ w, Calls Tryz.prog 106 #[.agg #[.int .i64 3, .int .i64 x, .int .i64 y, .int .i64 z], .agg #[.int .i64 i, .int .i64 j, .int .i64 k]] w fun e w' => e = .returned (.int .i64 P) ∧ ∃ o p, w' = (w.alloc o).alloc p) := by
    intro w
    rw [← hP]
    exact reck_3_ext x y z i j k w
  have HE0 : Hid (P / z / y % x = i') := e0
  have HE1 : Hid (P / z % y = j') := e1
  have HE2 : Hid (P % z = k') := e2
  have heq : ∀ w, (Op.equalIn 10000 94 (.agg #[.int .i64 i', .int .i64 j', .int .i64 k']) (.agg #[.int .i64 i, .int .i64 j, .int .i64 k])).run Tryz.prog w = .ok true w := fun w => by rw [eq_axes, hB]
  clear hB e0 e1 e2
  clear h1 h2 hP
  go_enter Tryz.func87, Tryz.ntmps87
  go_wp2_with fail
  refine (ext_3_ok x y z _ _ _ H1.out (by omega) x1 (by omega) y1 (by omega) z1 hp).mono ?_
  rintro e w1 ⟨rfl, hb⟩
  have HB : Hid (Below w.heap.size w w1) := hb
  have hcp : (Builtin.copy_ #[24, 24] 3 #[.slice (some ⟨w1.heap.size + 1, 0, none⟩) 3 3, .slice b 3 d]).run Tryz.prog ((w1.alloc (.cells #[.int .i64 3, .int .i64 x, .int .i64 y, .int .i64 z] 96)).alloc (.cells #[.int .i64 0, .int .i64 0, .int .i64 0] 94)) = .ok (.int .i64 3) ((w1.alloc (.cells #[.int .i64 3, .int .i64 x, .int .i64 y, .int .i64 z] 96)).alloc (.cells #[.int .i64 i, .int .i64 j, .int .i64 k] 94)) := by
    have q := copy_in ((H2.out.keep hb).alloc (.cells #[.int .i64 3, .int .i64 x, .int .i64 y, .int .i64 z] 96)) 3 94 d (by simp)
    rw [show (w1.alloc (.cells #[.int .i64 3, .int .i64 x, .int .i64 y, .int .i64 z] 96)).heap.size = w1.heap.size + 1 by simp] at q
    exact q
  clear hb
  go_wp2_with fail
  refine (HR.out _).mono ?_
  rintro e w3 ⟨rfl, o, p, hw⟩
  subst w3
  go_wp2_with fail
  refine (idx_3_in x y z P _ x0 x1 y0 y1 z0 z1 q1 q2 (by omega)).mono ?_
  rintro e w2 ⟨rfl, o0, o1, o2, o3, hw⟩
  subst w2
  rw [HE0.out, HE1.out, HE2.out]
  go_wp2
  go_ret
  exact ⟨rfl, by repeat first | exact HB.out | refine bAlloc ?_ _⟩
set_option maxRecDepth 20000 in
set_option maxHeartbeats 2000000 in
theorem place_3_miss (x y z : Int) (i j k : Int) (i' j' k' : Int) (P : Int) (a b : Option Addr) (c d : Nat) (w : World) (h1 : Ints w a [x, y, z]) (h2 : Ints w b [i, j, k]) (hP : wrap64 (wrap64 (wrap64 (wrap64 (wrap64 i * y) + j) * z) + k) = P) (x0 : 0 < x) (x1 : x ≤ 300) (y0 : 0 < y) (y1 : y ≤ 300) (z0 : 0 < z) (z1 : z ≤ 300) (hp : x * y * z ≤ 300) (q1 : 0 ≤ P) (q2 : P < x * y * z) (e0 : P / z / y % x = i') (e1 : P / z % y = j') (e2 : P % z = k') (hB : (i' == i && (j' == j && (k' == k))) = false) :
    Calls Tryz.prog 87 #[.slice a 3 c, .slice b 3 d] w fun e w' => e = .returned (.int .i64 (-1)) ∧ Below w.heap.size w w' := by
  have H1 : Hid (Ints w a [x, y, z]) := h1
  have H2 : Hid (Ints w b [i, j, k]) := h2
  have HR : Hid (∀ w, Calls Tryz.prog 106 #[.agg #[.int .i64 3, .int .i64 x, .int .i64 y, .int .i64 z], .agg #[.int .i64 i, .int .i64 j, .int .i64 k]] w fun e w' => e = .returned (.int .i64 P) ∧ ∃ o p, w' = (w.alloc o).alloc p) := by
    intro w
    rw [← hP]
    exact reck_3_ext x y z i j k w
  have HE0 : Hid (P / z / y % x = i') := e0
  have HE1 : Hid (P / z % y = j') := e1
  have HE2 : Hid (P % z = k') := e2
  have heq : ∀ w, (Op.equalIn 10000 94 (.agg #[.int .i64 i', .int .i64 j', .int .i64 k']) (.agg #[.int .i64 i, .int .i64 j, .int .i64 k])).run Tryz.prog w = .ok false w := fun w => by rw [eq_axes, hB]
  clear hB e0 e1 e2
  clear h1 h2 hP
  go_enter Tryz.func87, Tryz.ntmps87
  go_wp2_with fail
  refine (ext_3_ok x y z _ _ _ H1.out (by omega) x1 (by omega) y1 (by omega) z1 hp).mono ?_
  rintro e w1 ⟨rfl, hb⟩
  have HB : Hid (Below w.heap.size w w1) := hb
  have hcp : (Builtin.copy_ #[24, 24] 3 #[.slice (some ⟨w1.heap.size + 1, 0, none⟩) 3 3, .slice b 3 d]).run Tryz.prog ((w1.alloc (.cells #[.int .i64 3, .int .i64 x, .int .i64 y, .int .i64 z] 96)).alloc (.cells #[.int .i64 0, .int .i64 0, .int .i64 0] 94)) = .ok (.int .i64 3) ((w1.alloc (.cells #[.int .i64 3, .int .i64 x, .int .i64 y, .int .i64 z] 96)).alloc (.cells #[.int .i64 i, .int .i64 j, .int .i64 k] 94)) := by
    have q := copy_in ((H2.out.keep hb).alloc (.cells #[.int .i64 3, .int .i64 x, .int .i64 y, .int .i64 z] 96)) 3 94 d (by simp)
    rw [show (w1.alloc (.cells #[.int .i64 3, .int .i64 x, .int .i64 y, .int .i64 z] 96)).heap.size = w1.heap.size + 1 by simp] at q
    exact q
  clear hb
  go_wp2_with fail
  refine (HR.out _).mono ?_
  rintro e w3 ⟨rfl, o, p, hw⟩
  subst w3
  go_wp2_with fail
  refine (idx_3_in x y z P _ x0 x1 y0 y1 z0 z1 q1 q2 (by omega)).mono ?_
  rintro e w2 ⟨rfl, o0, o1, o2, o3, hw⟩
  subst w2
  rw [HE0.out, HE1.out, HE2.out]
  go_wp2
  go_ret
  exact ⟨rfl, by repeat first | exact HB.out | refine bAlloc ?_ _⟩
set_option maxRecDepth 20000 in
set_option maxHeartbeats 2000000 in
theorem place_3_neg (x y z : Int) (i j k : Int) (P : Int) (a b : Option Addr) (c d : Nat) (w : World) (h1 : Ints w a [x, y, z]) (h2 : Ints w b [i, j, k]) (hP : wrap64 (wrap64 (wrap64 (wrap64 (wrap64 i * y) + j) * z) + k) = P) (x0 : 0 ≤ x) (x1 : x ≤ 300) (y0 : 0 ≤ y) (y1 : y ≤ 300) (z0 : 0 ≤ z) (z1 : z ≤ 300) (hp : x * y * z ≤ 300) (q1 : P < 0) :
    Calls Tryz.prog 87 #[.slice a 3 c, .slice b 3 d] w fun e w' => e = .returned (.int .i64 (-1)) ∧ Below w.heap.size w w' := by
  have H1 : Hid (Ints w a [x, y, z]) := h1
  have H2 : Hid (Ints w b [i, j, k]) := h2
  have HR : Hid (∀ w, Calls Tryz.prog 106 #[.agg #[.int .i64 3, .int .i64 x, .int .i64 y, .int .i64 z], .agg #[.int .i64 i, .int .i64 j, .int .i64 k]] w fun e w' => e = .returned (.int .i64 P) ∧ ∃ o p, w' = (w.alloc o).alloc p) := by
    intro w
    rw [← hP]
    exact reck_3_ext x y z i j k w
  clear h1 h2 hP
  go_enter Tryz.func87, Tryz.ntmps87
  go_wp2_with fail
  refine (ext_3_ok x y z _ _ _ H1.out (by omega) x1 (by omega) y1 (by omega) z1 hp).mono ?_
  rintro e w1 ⟨rfl, hb⟩
  have HB : Hid (Below w.heap.size w w1) := hb
  have hcp : (Builtin.copy_ #[24, 24] 3 #[.slice (some ⟨w1.heap.size + 1, 0, none⟩) 3 3, .slice b 3 d]).run Tryz.prog ((w1.alloc (.cells #[.int .i64 3, .int .i64 x, .int .i64 y, .int .i64 z] 96)).alloc (.cells #[.int .i64 0, .int .i64 0, .int .i64 0] 94)) = .ok (.int .i64 3) ((w1.alloc (.cells #[.int .i64 3, .int .i64 x, .int .i64 y, .int .i64 z] 96)).alloc (.cells #[.int .i64 i, .int .i64 j, .int .i64 k] 94)) := by
    have q := copy_in ((H2.out.keep hb).alloc (.cells #[.int .i64 3, .int .i64 x, .int .i64 y, .int .i64 z] 96)) 3 94 d (by simp)
    rw [show (w1.alloc (.cells #[.int .i64 3, .int .i64 x, .int .i64 y, .int .i64 z] 96)).heap.size = w1.heap.size + 1 by simp] at q
    exact q
  clear hb
  go_wp2_with fail
  refine (HR.out _).mono ?_
  rintro e w3 ⟨rfl, o, p, hw⟩
  subst w3
  go_wp2_with fail
  refine (idx_3_neg x y z P _ q1).mono ?_
  rintro e w2 ⟨rfl, o0, o1, o2, hw⟩
  subst w2
  go_wp2
  go_ret
  exact ⟨rfl, by repeat first | exact HB.out | refine bAlloc ?_ _⟩
set_option maxRecDepth 20000 in
set_option maxHeartbeats 2000000 in
theorem place_3_much (x y z : Int) (i j k : Int) (P : Int) (a b : Option Addr) (c d : Nat) (w : World) (h1 : Ints w a [x, y, z]) (h2 : Ints w b [i, j, k]) (hP : wrap64 (wrap64 (wrap64 (wrap64 (wrap64 i * y) + j) * z) + k) = P) (x0 : 0 ≤ x) (x1 : x ≤ 300) (y0 : 0 ≤ y) (y1 : y ≤ 300) (z0 : 0 ≤ z) (z1 : z ≤ 300) (hp : x * y * z ≤ 300) (q1 : 0 ≤ P) (q2 : x * y * z ≤ P) :
    Calls Tryz.prog 87 #[.slice a 3 c, .slice b 3 d] w fun e w' => e = .returned (.int .i64 (-1)) ∧ Below w.heap.size w w' := by
  have H1 : Hid (Ints w a [x, y, z]) := h1
  have H2 : Hid (Ints w b [i, j, k]) := h2
  have HR : Hid (∀ w, Calls Tryz.prog 106 #[.agg #[.int .i64 3, .int .i64 x, .int .i64 y, .int .i64 z], .agg #[.int .i64 i, .int .i64 j, .int .i64 k]] w fun e w' => e = .returned (.int .i64 P) ∧ ∃ o p, w' = (w.alloc o).alloc p) := by
    intro w
    rw [← hP]
    exact reck_3_ext x y z i j k w
  clear h1 h2 hP
  go_enter Tryz.func87, Tryz.ntmps87
  go_wp2_with fail
  refine (ext_3_ok x y z _ _ _ H1.out (by omega) x1 (by omega) y1 (by omega) z1 hp).mono ?_
  rintro e w1 ⟨rfl, hb⟩
  have HB : Hid (Below w.heap.size w w1) := hb
  have hcp : (Builtin.copy_ #[24, 24] 3 #[.slice (some ⟨w1.heap.size + 1, 0, none⟩) 3 3, .slice b 3 d]).run Tryz.prog ((w1.alloc (.cells #[.int .i64 3, .int .i64 x, .int .i64 y, .int .i64 z] 96)).alloc (.cells #[.int .i64 0, .int .i64 0, .int .i64 0] 94)) = .ok (.int .i64 3) ((w1.alloc (.cells #[.int .i64 3, .int .i64 x, .int .i64 y, .int .i64 z] 96)).alloc (.cells #[.int .i64 i, .int .i64 j, .int .i64 k] 94)) := by
    have q := copy_in ((H2.out.keep hb).alloc (.cells #[.int .i64 3, .int .i64 x, .int .i64 y, .int .i64 z] 96)) 3 94 d (by simp)
    rw [show (w1.alloc (.cells #[.int .i64 3, .int .i64 x, .int .i64 y, .int .i64 z] 96)).heap.size = w1.heap.size + 1 by simp] at q
    exact q
  clear hb
  go_wp2_with fail
  refine (HR.out _).mono ?_
  rintro e w3 ⟨rfl, o, p, hw⟩
  subst w3
  go_wp2_with fail
  refine (idx_3_much x y z P _ x0 x1 y0 y1 z0 z1 q1 q2).mono ?_
  rintro e w2 ⟨rfl, o0, o1, o2, o3, hw⟩
  subst w2
  go_wp2
  go_ret
  exact ⟨rfl, by repeat first | exact HB.out | refine bAlloc ?_ _⟩
end Go.Proofs.YtcpgdhffemecbaaGreat
namespace Go.Proofs.YtcpgdhffemecbaaGreat
open Go.RowKit
set_option linter.unusedVariables false
theorem sizeV_0 : sizeV [] = 1 := by simp [sizeV, prodV]
theorem sizeV_1 (x : Int) : sizeV [x] = if 0 ≤ x ∧ x ≤ 300 then (if 300 < x then -1 else x) else -1 := by simp [sizeV, dimOk, prodV]
theorem sizeV_2 (x y : Int) : sizeV [x, y] = if (0 ≤ x ∧ x ≤ 300) ∧ 0 ≤ y ∧ y ≤ 300 then (if 300 < x * y then -1 else x * y) else -1 := by simp [sizeV, dimOk, prodV]
theorem sizeV_3 (x y z : Int) : sizeV [x, y, z] = if (0 ≤ x ∧ x ≤ 300) ∧ (0 ≤ y ∧ y ≤ 300) ∧ 0 ≤ z ∧ z ≤ 300 then (if 300 < x * y * z then -1 else x * y * z) else -1 := by simp [sizeV, dimOk, prodV]
theorem dim3 (x : Int) : x < 0 ∨ (0 ≤ x ∧ 300 < x) ∨ (0 ≤ x ∧ x ≤ 300) := by omega
/-- The numbers of a shape by value. -/
def Ext (l : List Int) (n : Nat) (x y z : Int) : Prop := n = l.length ∧ x = l.getD 0 0 ∧ y = l.getD 1 0 ∧ z = l.getD 2 0
theorem ext_bad {l : List Int} {a : Option Addr} {w : World} {c : Nat} (hs : sizeV l < 0)
    (h : Calls Tryz.prog 79 #[.slice a l.length c] w fun e w' => e = .returned (.tuple #[.agg #[.int .i64 0, .int .i64 0, .int .i64 0, .int .i64 0], .bool false]) ∧ Below w.heap.size w w') :
    Calls Tryz.prog 79 #[.slice a l.length c] w fun e w' => ∃ (n : Nat) (x y z : Int), e = .returned (.tuple #[.agg #[.int .i64 n, .int .i64 x, .int .i64 y, .int .i64 z], .bool (decide (0 ≤ sizeV l))]) ∧ (0 ≤ sizeV l → Ext l n x y z) ∧ Below w.heap.size w w' := by
  refine h.mono ?_
  rintro e w' ⟨rfl, hb⟩
  exact ⟨0, 0, 0, 0, by rw [show decide (0 ≤ sizeV l) = false by simp; omega]; rfl, fun h => by omega, hb⟩
theorem ext_good {l : List Int} {a : Option Addr} {w : World} {c n : Nat} {x y z : Int} (hs : 0 ≤ sizeV l) (he : Ext l n x y z)
    (h : Calls Tryz.prog 79 #[.slice a l.length c] w fun e w' => e = .returned (.tuple #[.agg #[.int .i64 n, .int .i64 x, .int .i64 y, .int .i64 z], .bool true]) ∧ Below w.heap.size w w') :
    Calls Tryz.prog 79 #[.slice a l.length c] w fun e w' => ∃ (n : Nat) (x y z : Int), e = .returned (.tuple #[.agg #[.int .i64 n, .int .i64 x, .int .i64 y, .int .i64 z], .bool (decide (0 ≤ sizeV l))]) ∧ (0 ≤ sizeV l → Ext l n x y z) ∧ Below w.heap.size w w' := by
  refine h.mono ?_
  rintro e w' ⟨rfl, hb⟩
  exact ⟨n, x, y, z, by rw [show decide (0 ≤ sizeV l) = true by simpa using hs], fun _ => he, hb⟩
/-- A list as a shape by value. -/
theorem ext_impl {l : List Int} {a : Option Addr} {w : World} (c : Nat) (h1 : Ints w a l) :
    Calls Tryz.prog 79 #[.slice a l.length c] w fun e w' => ∃ (n : Nat) (x y z : Int), e = .returned (.tuple #[.agg #[.int .i64 n, .int .i64 x, .int .i64 y, .int .i64 z], .bool (decide (0 ≤ sizeV l))]) ∧ (0 ≤ sizeV l → Ext l n x y z) ∧ Below w.heap.size w w' := by
  by_cases hl : 3 < l.length
  · exact ext_bad (by unfold sizeV; rw [if_pos hl]; decide) (ext_long l a c w hl)
  · rcases len3 (by omega : l.length ≤ 3) with rfl | ⟨x, rfl⟩ | ⟨x, y, rfl⟩ | ⟨x, y, z, rfl⟩
    · exact ext_good (n := 0) (x := 0) (y := 0) (z := 0) (by rw [sizeV_0]; decide) ⟨rfl, rfl, rfl, rfl⟩ (ext_0_ok a c w h1)
    · rcases dim3 x with hb | ⟨hb0, hb⟩ | ⟨x0, x1⟩
      · exact ext_bad (by rw [sizeV_1, if_neg (by omega)]; decide) (ext_1_neg0 x a c w h1  hb)
      · exact ext_bad (by rw [sizeV_1, if_neg (by omega)]; decide) (ext_1_great0 x a c w h1  hb0 hb)
      exact ext_good (n := 1) (x := x) (y := 0) (z := 0) (by rw [sizeV_1, if_pos (by omega), if_neg (by omega)]; exact x0) ⟨rfl, rfl, rfl, rfl⟩ (ext_1_ok x a c w h1 x0 x1)
    · rcases dim3 x with hb | ⟨hb0, hb⟩ | ⟨x0, x1⟩
      · exact ext_bad (by rw [sizeV_2, if_neg (by omega)]; decide) (ext_2_neg0 x y a c w h1  hb)
      · exact ext_bad (by rw [sizeV_2, if_neg (by omega)]; decide) (ext_2_great0 x y a c w h1  hb0 hb)
      rcases dim3 y with hb | ⟨hb0, hb⟩ | ⟨y0, y1⟩
      · exact ext_bad (by rw [sizeV_2, if_neg (by omega)]; decide) (ext_2_neg1 x y a c w h1 x0 x1 hb)
      · exact ext_bad (by rw [sizeV_2, if_neg (by omega)]; decide) (ext_2_great1 x y a c w h1 x0 x1 hb0 hb)
      by_cases hp : 300 < x * y
      · exact ext_bad (by rw [sizeV_2, if_pos (by omega), if_pos hp]; decide) (ext_2_much x y a c w h1 x0 x1 y0 y1 hp)
      exact ext_good (n := 2) (x := x) (y := y) (z := 0) (by rw [sizeV_2, if_pos (by omega), if_neg (by omega)]; exact Int.mul_nonneg x0 y0) ⟨rfl, rfl, rfl, rfl⟩ (ext_2_ok x y a c w h1 x0 x1 y0 y1 (by omega))
    · rcases dim3 x with hb | ⟨hb0, hb⟩ | ⟨x0, x1⟩
      · exact ext_bad (by rw [sizeV_3, if_neg (by omega)]; decide) (ext_3_neg0 x y z a c w h1  hb)
      · exact ext_bad (by rw [sizeV_3, if_neg (by omega)]; decide) (ext_3_great0 x y z a c w h1  hb0 hb)
      rcases dim3 y with hb | ⟨hb0, hb⟩ | ⟨y0, y1⟩
      · exact ext_bad (by rw [sizeV_3, if_neg (by omega)]; decide) (ext_3_neg1 x y z a c w h1 x0 x1 hb)
      · exact ext_bad (by rw [sizeV_3, if_neg (by omega)]; decide) (ext_3_great1 x y z a c w h1 x0 x1 hb0 hb)
      rcases dim3 z with hb | ⟨hb0, hb⟩ | ⟨z0, z1⟩
      · exact ext_bad (by rw [sizeV_3, if_neg (by omega)]; decide) (ext_3_neg2 x y z a c w h1 x0 x1 y0 y1 hb)
      · exact ext_bad (by rw [sizeV_3, if_neg (by omega)]; decide) (ext_3_great2 x y z a c w h1 x0 x1 y0 y1 hb0 hb)
      by_cases hp : 300 < x * y * z
      · exact ext_bad (by rw [sizeV_3, if_pos (by omega), if_pos hp]; decide) (ext_3_much x y z a c w h1 x0 x1 y0 y1 z0 z1 hp)
      exact ext_good (n := 3) (x := x) (y := y) (z := z) (by rw [sizeV_3, if_pos (by omega), if_neg (by omega)]; exact Int.mul_nonneg (Int.mul_nonneg x0 y0) z0) ⟨rfl, rfl, rfl, rfl⟩ (ext_3_ok x y z a c w h1 x0 x1 y0 y1 z0 z1 (by omega))
/-- Its size. -/
theorem size_ext {l : List Int} {n : Nat} {x y z : Int} (hs : 0 ≤ sizeV l) (he : Ext l n x y z) (w : World) :
    Calls Tryz.prog 96 #[.agg #[.int .i64 n, .int .i64 x, .int .i64 y, .int .i64 z]] w fun e w' => e = .returned (.int .i64 (sizeV l)) ∧ ∃ o, w' = w.alloc o := by
  obtain ⟨rfl, rfl, rfl, rfl⟩ := he
  obtain ⟨k1, k2, k3, k4⟩ := sizeV_ok hs
  rw [k4]
  rcases len3 k1 with rfl | ⟨x, rfl⟩ | ⟨x, y, rfl⟩ | ⟨x, y, z, rfl⟩
  · exact (size_0_ext w).mono fun e w' h => ⟨h.1, _, h.2⟩
  · simp only [List.all_cons, List.all_nil, Bool.and_true] at k2
    have dx := dimOk_bd k2
    rw [prod1]
    exact (size_1_ext x w dx.1 dx.2).mono fun e w' h => ⟨h.1, _, h.2⟩
  · simp only [List.all_cons, List.all_nil, Bool.and_true, Bool.and_eq_true] at k2
    have dx := dimOk_bd k2.1
    have dy := dimOk_bd k2.2
    rw [prod2]
    exact (size_2_ext x y w dx.1 dx.2 dy.1 dy.2).mono fun e w' h => ⟨h.1, _, h.2⟩
  · simp only [List.all_cons, List.all_nil, Bool.and_true, Bool.and_eq_true] at k2
    have dx := dimOk_bd k2.1
    have dy := dimOk_bd k2.2.1
    have dz := dimOk_bd k2.2.2
    rw [prod3]
    exact (size_3_ext x y z w dx.1 dx.2 dy.1 dy.2 dz.1 dz.2).mono fun e w' h => ⟨h.1, _, h.2⟩
theorem sizeV_neg {l : List Int} (h : ¬ 0 ≤ sizeV l) : sizeV l = -1 := by have := sizeV_bd l; omega
set_option maxRecDepth 20000 in
set_option maxHeartbeats 1000000 in
/-- SizeOf. -/
theorem size_impl {l : List Int} {a : Option Addr} {w : World} (c : Nat) (h1 : Ints w a l) :
    Calls Tryz.prog 62 #[.slice a l.length c] w fun e w' => e = .returned (.int .i64 (sizeV l)) ∧ Below w.heap.size w w' := by
  have H1 : Hid (Ints w a l) := h1
  clear h1
  by_cases hs : 0 ≤ sizeV l
  · have hs' : decide (0 ≤ sizeV l) = true := by simpa using hs
    have HS : Hid (0 ≤ sizeV l) := hs
    clear hs
    go_enter Tryz.func62, Tryz.ntmps62
    go_wp2_with fail
    refine (ext_impl _ H1.out).mono ?_
    rintro e w1 ⟨n, x, y, z, rfl, he, hb⟩
    have HE : Hid (Ext l n x y z) := he HS.out
    have HB : Hid (Below w.heap.size w w1) := hb
    clear he hb
    go_wp2_with fail
    refine (size_ext HS.out HE.out _).mono ?_
    rintro e w2 ⟨rfl, o, hw⟩
    subst w2
    go_wp2
    go_ret
    exact ⟨rfl, bAlloc (bAlloc HB.out _) _⟩
  · have hs' : decide (0 ≤ sizeV l) = false := by simpa using hs
    have HV : Hid (sizeV l = -1) := sizeV_neg hs
    clear hs
    go_enter Tryz.func62, Tryz.ntmps62
    go_wp2_with fail
    refine (ext_impl _ H1.out).mono ?_
    rintro e w1 ⟨n, x, y, z, rfl, he, hb⟩
    have HB : Hid (Below w.heap.size w w1) := hb
    clear he hb
    go_wp2
    go_ret
    exact ⟨ret_num HV.out.symm, bAlloc HB.out _⟩
set_option maxRecDepth 20000 in
set_option maxHeartbeats 1000000 in
/-- ShapeOk. -/
theorem ok_impl {l : List Int} {a : Option Addr} {w : World} (c : Nat) (h1 : Ints w a l) :
    Calls Tryz.prog 39 #[.slice a l.length c] w fun e w' => e = .returned (.bool (decide (0 ≤ sizeV l))) ∧ Below w.heap.size w w' := by
  have H1 : Hid (Ints w a l) := h1
  clear h1
  generalize hq : decide (0 ≤ sizeV l) = q
  have HQ : Hid (decide (0 ≤ sizeV l) = q) := hq
  clear hq
  go_enter Tryz.func39, Tryz.ntmps39
  go_wp2_with fail
  refine (ext_impl _ H1.out).mono ?_
  rintro e w1 ⟨n, x, y, z, rfl, he, hb⟩
  have HB : Hid (Below w.heap.size w w1) := hb
  clear he hb
  rw [HQ.out]
  go_wp2
  go_ret
  exact ⟨rfl, bAlloc HB.out _⟩
/-- No index where there is no place. -/
theorem idx_out {l : List Int} {n : Nat} {x y z : Int} (hs : 0 ≤ sizeV l) (he : Ext l n x y z) (p : Int) (hp : p < 0 ∨ sizeV l ≤ p) (w : World) :
    Calls Tryz.prog 105 #[.agg #[.int .i64 n, .int .i64 x, .int .i64 y, .int .i64 z], .int .i64 p] w fun e w' => e = .returned (.tuple #[.agg #[.int .i64 0, .int .i64 0, .int .i64 0], .bool false]) ∧ Below w.heap.size w w' := by
  obtain ⟨rfl, rfl, rfl, rfl⟩ := he
  obtain ⟨k1, k2, k3, k4⟩ := sizeV_ok hs
  rw [k4] at hp
  by_cases h0 : p < 0
  · rcases len3 k1 with rfl | ⟨x, rfl⟩ | ⟨x, y, rfl⟩ | ⟨x, y, z, rfl⟩
    · exact (idx_0_neg p w h0).mono fun e w' ⟨h, o0, o1, o2, hw⟩ => ⟨h, hw ▸ bAlloc (bAlloc (bAlloc (Below.refl _ _) _) _) _⟩
    · exact (idx_1_neg x p w h0).mono fun e w' ⟨h, o0, o1, o2, hw⟩ => ⟨h, hw ▸ bAlloc (bAlloc (bAlloc (Below.refl _ _) _) _) _⟩
    · exact (idx_2_neg x y p w h0).mono fun e w' ⟨h, o0, o1, o2, hw⟩ => ⟨h, hw ▸ bAlloc (bAlloc (bAlloc (Below.refl _ _) _) _) _⟩
    · exact (idx_3_neg x y z p w h0).mono fun e w' ⟨h, o0, o1, o2, hw⟩ => ⟨h, hw ▸ bAlloc (bAlloc (bAlloc (Below.refl _ _) _) _) _⟩
  · have q1 : 0 ≤ p := by omega
    have q2 : prodV l ≤ p := by omega
    rcases len3 k1 with rfl | ⟨x, rfl⟩ | ⟨x, y, rfl⟩ | ⟨x, y, z, rfl⟩
    · exact (idx_0_much p w q1 q2).mono fun e w' ⟨h, o0, o1, o2, o3, hw⟩ => ⟨h, hw ▸ bAlloc (bAlloc (bAlloc (bAlloc (Below.refl _ _) _) _) _) _⟩
    · simp only [List.all_cons, List.all_nil, Bool.and_true] at k2
      have dx := dimOk_bd k2
      rw [prod1] at q2
      exact (idx_1_much x p w dx.1 dx.2 q1 q2).mono fun e w' ⟨h, o0, o1, o2, o3, hw⟩ => ⟨h, hw ▸ bAlloc (bAlloc (bAlloc (bAlloc (Below.refl _ _) _) _) _) _⟩
    · simp only [List.all_cons, List.all_nil, Bool.and_true, Bool.and_eq_true] at k2
      have dx := dimOk_bd k2.1
      have dy := dimOk_bd k2.2
      rw [prod2] at q2
      exact (idx_2_much x y p w dx.1 dx.2 dy.1 dy.2 q1 q2).mono fun e w' ⟨h, o0, o1, o2, o3, hw⟩ => ⟨h, hw ▸ bAlloc (bAlloc (bAlloc (bAlloc (Below.refl _ _) _) _) _) _⟩
    · simp only [List.all_cons, List.all_nil, Bool.and_true, Bool.and_eq_true] at k2
      have dx := dimOk_bd k2.1
      have dy := dimOk_bd k2.2.1
      have dz := dimOk_bd k2.2.2
      rw [prod3] at q2
      exact (idx_3_much x y z p w dx.1 dx.2 dy.1 dy.2 dz.1 dz.2 q1 q2).mono fun e w' ⟨h, o0, o1, o2, o3, hw⟩ => ⟨h, hw ▸ bAlloc (bAlloc (bAlloc (bAlloc (Below.refl _ _) _) _) _) _⟩
theorem newInts_nil (B : Nat) (w : World) : NewInts B w (.slice none 0 0) [] := ⟨rfl, .inl ⟨rfl, rfl⟩⟩
set_option maxRecDepth 20000 in
set_option maxHeartbeats 1000000 in
theorem index_bad_impl {s : List Int} {a : Option Addr} {w : World} (p : Int) (c : Nat) (h1 : Ints w a s) (hb : sizeV s < 0 ∨ p < 0 ∨ sizeV s - 1 < p) :
    Calls Tryz.prog 86 #[.slice a s.length c, .int .i64 p] w fun e w' => ∃ v, e = .returned v ∧ NewInts w.heap.size w' v [] ∧ Below w.heap.size w w' := by
  have H1 : Hid (Ints w a s) := h1
  clear h1
  by_cases hs : 0 ≤ sizeV s
  · have hs' : decide (0 ≤ sizeV s) = true := by simpa using hs
    have HS : Hid (0 ≤ sizeV s) := hs
    have HP : Hid (p < 0 ∨ sizeV s ≤ p) := by show _ ∨ _; omega
    clear hs hb
    go_enter Tryz.func86, Tryz.ntmps86
    go_wp2_with fail
    refine (ext_impl _ H1.out).mono ?_
    rintro e w1 ⟨n, x, y, z, rfl, he, hb⟩
    have HE : Hid (Ext s n x y z) := he HS.out
    have HB : Hid (Below w.heap.size w w1) := hb
    clear he hb
    go_wp2_with fail
    refine (idx_out HS.out HE.out p HP.out _).mono ?_
    rintro e w2 ⟨rfl, hb⟩
    have HB2 : Hid (Below w.heap.size w w2) := bTrans (bAlloc HB.out _) hb
    clear hb
    go_wp2
    go_ret
    exact ⟨_, rfl, newInts_nil _ _, bAlloc HB2.out _⟩
  · have hs' : decide (0 ≤ sizeV s) = false := by simpa using hs
    clear hs hb
    go_enter Tryz.func86, Tryz.ntmps86
    go_wp2_with fail
    refine (ext_impl _ H1.out).mono ?_
    rintro e w1 ⟨n, x, y, z, rfl, he, hb⟩
    have HB : Hid (Below w.heap.size w w1) := hb
    clear he hb
    go_wp2
    go_ret
    exact ⟨_, rfl, newInts_nil _ _, bAlloc HB.out _⟩
/-- IndexOf, whatever list and place it is given: a list in new memory. -/
theorem index_impl {s : List Int} {a : Option Addr} {w : World} (p : Int) (c : Nat) (h1 : Ints w a s) :
    Calls Tryz.prog 86 #[.slice a s.length c, .int .i64 p] w fun e w' => ∃ v, e = .returned v ∧ NewInts w.heap.size w' v (indexV s p) ∧ Below w.heap.size w w' := by
  by_cases hb : sizeV s < 0 ∨ p < 0 ∨ sizeV s - 1 < p
  · have e : indexV s p = [] := by unfold indexV; rw [if_pos hb]
    rw [e]
    exact index_bad_impl p c h1 hb
  · have e : indexV s p = idx s p := by unfold indexV; rw [if_neg hb]
    rw [e]
    have hs : 0 ≤ sizeV s := by omega
    obtain ⟨k1, k2, k3, k4⟩ := sizeV_ok hs
    rcases len3 k1 with rfl | ⟨x, rfl⟩ | ⟨x, y, rfl⟩ | ⟨x, y, z, rfl⟩
    · have k5 := sizeV_0
      exact index_0_impl p a c w h1 (by omega) (by omega)
    · simp only [List.all_cons, List.all_nil, Bool.and_true] at k2
      have dx := dimOk_bd k2
      rw [prod1] at k3 k4
      exact index_1_impl x _ p a c w h1 (by omega) dx.2 (by omega) (by omega) rfl
    · simp only [List.all_cons, List.all_nil, Bool.and_true, Bool.and_eq_true] at k2
      have dx := dimOk_bd k2.1
      have dy := dimOk_bd k2.2
      rw [prod2] at k3 k4
      have q := pos_of_mul dx.1 dy.1 (by omega)
      exact index_2_impl x y _ _ p a c w h1 q.1 dx.2 q.2 dy.2 k3 (by omega) (by omega) rfl rfl
    · simp only [List.all_cons, List.all_nil, Bool.and_true, Bool.and_eq_true] at k2
      have dx := dimOk_bd k2.1
      have dy := dimOk_bd k2.2.1
      have dz := dimOk_bd k2.2.2
      rw [prod3] at k3 k4
      have q := pos_of_mul (Int.mul_nonneg dx.1 dy.1) dz.1 (by omega)
      have q' := pos_of_mul dx.1 dy.1 q.1
      exact index_3_impl x y z _ _ _ p a c w h1 q'.1 dx.2 q'.2 dy.2 q.2 dz.2 k3 (by omega) (by omega) rfl rfl rfl
set_option maxRecDepth 20000 in
set_option maxHeartbeats 1000000 in
theorem place_bad_impl {s i : List Int} {a b : Option Addr} {w : World} (c d : Nat) (h1 : Ints w a s) (hb : sizeV s < 0 ∨ i.length ≠ s.length) :
    Calls Tryz.prog 87 #[.slice a s.length c, .slice b i.length d] w fun e w' => e = .returned (.int .i64 (-1)) ∧ Below w.heap.size w w' := by
  have H1 : Hid (Ints w a s) := h1
  clear h1
  by_cases hs : 0 ≤ sizeV s
  · have hs' : decide (0 ≤ sizeV s) = true := by simpa using hs
    have HS : Hid (0 ≤ sizeV s) := hs
    have HN : Hid (i.length ≠ s.length) := by
      rcases hb with hb | hb
      · omega
      · exact hb
    clear hs hb
    go_enter Tryz.func87, Tryz.ntmps87
    go_wp2_with fail
    refine (ext_impl _ H1.out).mono ?_
    rintro e w1 ⟨n, x, y, z, rfl, he, hb⟩
    have hn : ((i.length : Int) != (n : Int)) = true := by
      have h1 := (he HS.out).1
      have h2 := HN.out
      simp; omega
    have HB : Hid (Below w.heap.size w w1) := hb
    clear he hb
    go_wp2
    go_ret
    exact ⟨rfl, bAlloc HB.out _⟩
  · have hs' : decide (0 ≤ sizeV s) = false := by simpa using hs
    clear hs hb
    go_enter Tryz.func87, Tryz.ntmps87
    go_wp2_with fail
    refine (ext_impl _ H1.out).mono ?_
    rintro e w1 ⟨n, x, y, z, rfl, he, hb⟩
    have HB : Hid (Below w.heap.size w w1) := hb
    clear he hb
    go_wp2
    go_ret
    exact ⟨rfl, bAlloc HB.out _⟩
end Go.Proofs.YtcpgdhffemecbaaGreat
namespace Go.Proofs.YtcpgdhffemecbaaGreat
open Go.RowKit
set_option linter.unusedVariables false
set_option linter.unusedSimpArgs false
set_option maxRecDepth 20000 in
set_option maxHeartbeats 4000000 in
/-- ArrayOk. -/
theorem arrOk_impl {s d : List Int} {w : World} {v : Value} (h : ArrI w v s d) (hd : d.length ≤ 1048576) :
    Calls Tryz.prog 21 #[v] w fun e w' => e = .returned (.bool (arrOk s d)) ∧ Below w.heap.size w w' := by
  obtain ⟨a, c, b, e, rfl, h1, h2, _, _⟩ := h
  have H1 : Hid (Ints w a s) := h1
  have H2 : Hid (Ints w b d) := h2
  have HD : Hid (d.length ≤ 1048576) := hd
  clear h1 h2 hd
  have HSZ : Hid (∀ W, Ints W a s → Calls Tryz.prog 62 #[.slice a s.length c] W fun e w' => e = .returned (.int .i64 (sizeV s)) ∧ Below W.heap.size W w') := fun W h => size_impl c h
  have HAR : Hid (∀ W, Ints W b d → Calls Tryz.prog 63 #[.slice b d.length e] W fun e w' => e = .returned (.bool (d.all ok)) ∧ w' = W) := fun W h => allRight_impl e h HD.out
  by_cases hs : sizeV s = d.length
  · have HV : Hid (arrOk s d = d.all ok) := by show _ = _; simp [arrOk, hs]
    rw [hs] at HSZ
    clear hs
    generalize d.all ok = q at *
    go_enter Tryz.func21, Tryz.ntmps21
    go_wp2
    generalize hW : w.alloc (.cells #[.slice a s.length c, .slice b d.length e] 26) = W
    have HB : Hid (Below w.heap.size w W) := by rw [← hW]; exact bAlloc (Below.refl _ _) _
    have X : Hid (Box W w.heap.size (.slice a s.length c) (.slice b d.length e) 26) := by rw [← hW]; exact box_new w _ _ _
    have x0 := X.out.c0
    have x1 := X.out.c1
    clear hW
    go_region_held3 (fun w' => w'.cell? ⟨w.heap.size, 0, none⟩ = some (.slice a s.length c) ∧ w'.cell? ⟨w.heap.size, 1, none⟩ = some (.slice b d.length e))
      (first | exact ⟨z0, z1⟩ | exact ⟨y0, y1⟩ | exact ⟨x0, x1⟩)
      (first
        | (go_at_call 62; refine (HSZ.out _ (H1.out.keep (bTrans HB.out ((Below.refl W.heap.size W).drew)))).mono ?_; rintro r w1 ⟨rfl, hb⟩; have HB1 : Hid (Below W.heap.size W w1) := bTrans ((Below.refl W.heap.size W).drew) hb; have y0 := (X.out.keep HB1.out).c0; have y1 := (X.out.keep HB1.out).c1; clear hb)
        | (go_at_call 63; refine (HAR.out _ (H2.out.keep (bTrans HB.out HB1.out))).mono ?_; rintro r w2 ⟨rfl, hw⟩; subst w2))
    go_wp2
    go_ret
    exact ⟨by rw [HV.out]; rfl, bTrans HB.out HB1.out⟩
  · have HV : Hid (arrOk s d = false) := by show _ = _; simp [arrOk, hs]
    have hne : ((d.length : Int) == sizeV s) = false := by simp; exact fun e => hs e.symm
    generalize sizeV s = z at *
    clear hs
    go_enter Tryz.func21, Tryz.ntmps21
    go_wp2
    generalize hW : w.alloc (.cells #[.slice a s.length c, .slice b d.length e] 26) = W
    have HB : Hid (Below w.heap.size w W) := by rw [← hW]; exact bAlloc (Below.refl _ _) _
    have X : Hid (Box W w.heap.size (.slice a s.length c) (.slice b d.length e) 26) := by rw [← hW]; exact box_new w _ _ _
    have x0 := X.out.c0
    have x1 := X.out.c1
    clear hW
    first
      | go_region_with (go_at_call 62; refine (HSZ.out _ (H1.out.keep (bTrans HB.out ((Below.refl W.heap.size W).drew)))).mono ?_; rintro r w1 ⟨rfl, hb⟩; have HB1 : Hid (Below W.heap.size W w1) := bTrans ((Below.refl W.heap.size W).drew) hb; have y0 := (X.out.keep HB1.out).c0; have y1 := (X.out.keep HB1.out).c1; clear hb)
      | fail "no"
    all_goals
      go_wp2
      go_ret
      exact ⟨by rw [HV.out]; rfl, bTrans HB.out HB1.out⟩
set_option maxRecDepth 20000 in
set_option maxHeartbeats 2000000 in
/-- copyIfOk. -/
theorem copyIfOk_impl {s d : List Int} {w : World} {v : Value} (h : ArrI w v s d) (hs : s.length ≤ 1048576) (hd : d.length ≤ 1048576) :
    Calls Tryz.prog 36 #[v] w fun e w' => ∃ v', e = .returned (.tuple #[v', .bool (arrOk s d)]) ∧ Arr w.heap.size w'.heap.size w' v' (if arrOk s d = true then s else []) (if arrOk s d = true then d else []) ∧ Below w.heap.size w w' := by
  have H : Hid (ArrI w v s d) := h
  obtain ⟨a, c, b, e, rfl, _, _, _, _⟩ := h
  have HS : Hid (s.length ≤ 1048576) := hs
  have HD : Hid (d.length ≤ 1048576) := hd
  clear hs hd
  cases ho : arrOk s d
  all_goals
    have HO : Hid (arrOk s d = _) := ho
    clear ho
    go_enter Tryz.func36, Tryz.ntmps36
    go_wp2_with fail
    refine (arrOk_impl (H.out.keep (bAlloc (bAlloc (Below.refl _ _) _) _)) HD.out).mono ?_
    rintro r w1 ⟨rfl, hb⟩
    have HB : Hid (Below w.heap.size w w1) := bTrans (bAlloc (bAlloc (Below.refl _ _) _) _) hb
    have X : Hid (Box w1 w.heap.size (.slice a s.length c) (.slice b d.length e) 26) := ((box_new w _ _ _).keep (bAlloc (Below.refl _ _) _)).keep hb
    have Y : Hid (Box w1 (w.heap.size + 1) (.slice none 0 0) (.slice none 0 0) 26) := (box_new2 w _ _ _ _).keep hb
    have x0 := X.out.c0
    have x1 := X.out.c1
    have y0 := Y.out.c0
    have y1 := Y.out.c1
    have f0 : w1.frozen? ⟨w.heap.size + 1, 0, none⟩ = false := free_at Y.out 0
    have f1 : w1.frozen? ⟨w.heap.size + 1, 1, none⟩ = false := free_at Y.out 1
    clear hb
    rw [HO.out]
  · have HR : Hid (((w1.setCell ⟨w.heap.size + 1, 0, none⟩ (.slice none 0 0)).setCell ⟨w.heap.size + 1, 1, none⟩ (.slice none 0 0)).heap[w.heap.size + 1]? = some (.cells #[.slice none 0 0, .slice none 0 0] 26 (0, 0))) := arr_stored Y.out
    go_wp2
    refine bodyPost_ret (results_arr_tmp Tryz.results36 _ _ (w.heap.size + 1) _ _ rfl HR.out) rfl ?_
    exact ⟨_, rfl, arr_zero _ _ _, below_setCell (below_setCell HB.out (by omega) _ _) (by omega) _ _⟩
  · go_wp2_with fail
    refine (copyOf_impl (H.out.keep HB.out) HS.out HD.out).mono ?_
    rintro r w2 ⟨v', rfl, ha, hb⟩
    obtain ⟨a', c', b', e', rfl, _, _, _, _⟩ := ha.arrI
    have HA : Hid (Arr w1.heap.size w2.heap.size w2 (.agg #[.slice a' s.length c', .slice b' d.length e']) s d) := ha
    have HB2 : Hid (Below w.heap.size w w2) := bTrans HB.out hb
    have Y2 : Hid (Box w2 (w.heap.size + 1) (.slice none 0 0) (.slice none 0 0) 26) := Y.out.keep hb
    have LT : Hid (w.heap.size + 1 < w1.heap.size) := Y.out.lt
    clear ha hb x0 x1 y0 y1 f0 f1
    have y0 := Y2.out.c0
    have y1 := Y2.out.c1
    have f0 : w2.frozen? ⟨w.heap.size + 1, 0, none⟩ = false := free_at Y2.out 0
    have f1 : w2.frozen? ⟨w.heap.size + 1, 1, none⟩ = false := free_at Y2.out 1
    have HR : Hid (((w2.setCell ⟨w.heap.size + 1, 0, none⟩ (.slice a' s.length c')).setCell ⟨w.heap.size + 1, 1, none⟩ (.slice b' d.length e')).heap[w.heap.size + 1]? = some (.cells #[.slice a' s.length c', .slice b' d.length e'] 26 (0, 0))) := arr_stored Y2.out
    go_wp2
    refine bodyPost_ret (results_arr_tmp Tryz.results36 _ _ (w.heap.size + 1) _ _ rfl HR.out) rfl ?_
    refine ⟨_, rfl, ?_, below_setCell (below_setCell HB2.out (by omega) _ _) (by omega) _ _⟩
    have L := LT.out
    exact ((HA.out.setCell L _ _).setCell L _ _).mono (by omega) (by simp [size_setCell])
theorem arrOk_one (x : Int) : arrOk [] [x] = ok x := by simp [arrOk, sizeV_0']
set_option maxRecDepth 20000 in
set_option maxHeartbeats 2000000 in
/-- ScalarOf. -/
theorem scalarOf_impl (x : Int) (w : World) :
    Calls Tryz.prog 13 #[.int .i64 x] w fun e w' => ∃ v, e = .returned (.tuple #[v, .bool (ok x)]) ∧ Arr w.heap.size w'.heap.size w' v [] (if ok x = true then [x] else []) ∧ Below w.heap.size w w' := by
  obtain ⟨D, hD⟩ : ∃ D, D = (if ok x = true then [x] else []) := ⟨_, rfl⟩
  rw [← hD]
  have HC : Hid (∀ W u, ArrI W u [] [x] → Calls Tryz.prog 36 #[u] W fun e w' => ∃ v', e = .returned (.tuple #[v', .bool (ok x)]) ∧ Arr W.heap.size w'.heap.size w' v' [] D ∧ Below W.heap.size W w') := by
    intro W u hu
    have q := copyIfOk_impl hu (by simp) (by simp)
    rw [arrOk_one, ← hD] at q
    refine q.mono ?_
    rintro e w' ⟨v', rfl, ha, hb⟩
    exact ⟨v', rfl, by simpa using ha, hb⟩
  clear hD
  go_enter Tryz.func13, Tryz.ntmps13
  go_wp2_with fail
  refine (HC.out _ _ ⟨none, 0, _, 1, rfl, .inl rfl, (by simpa [vals] using ints_new (w.alloc (.cells #[.slice none 0 0, .slice none 0 0] 26)) [x] 3), by simp, by simp⟩).mono ?_
  rintro r w1 ⟨v', rfl, ha, hb⟩
  obtain ⟨a', c', b', e', rfl, _, _, _, _⟩ := ha.arrI
  have HA : Hid (Arr (w.heap.size + 2) w1.heap.size w1 (.agg #[.slice a' 0 c', .slice b' D.length e']) [] D) := by show Arr _ _ _ _ _ _; simpa using ha
  have HB : Hid (Below w.heap.size w w1) := bTrans (bAlloc (bAlloc (Below.refl _ _) _) _) hb
  have Y : Hid (Box w1 w.heap.size (.slice none 0 0) (.slice none 0 0) 26) := ((box_new w _ _ _).keep (bAlloc (Below.refl _ _) _)).keep hb
  clear ha hb
  have y0 := Y.out.c0
  have y1 := Y.out.c1
  have f0 : w1.frozen? ⟨w.heap.size, 0, none⟩ = false := free_at Y.out 0
  have f1 : w1.frozen? ⟨w.heap.size, 1, none⟩ = false := free_at Y.out 1
  have HR : Hid (((w1.setCell ⟨w.heap.size, 0, none⟩ (.slice a' 0 c')).setCell ⟨w.heap.size, 1, none⟩ (.slice b' D.length e')).heap[w.heap.size]? = some (.cells #[.slice a' 0 c', .slice b' D.length e'] 26 (0, 0))) := arr_stored Y.out
  simp only [List.length_nil]
  go_wp2
  refine bodyPost_ret (results_arr_tmp Tryz.results13 _ _ w.heap.size _ _ rfl HR.out) rfl ?_
  refine ⟨_, rfl, ?_, below_setCell (below_setCell HB.out (Nat.le_refl _) _ _) (Nat.le_refl _) _ _⟩
  exact ((HA.out.setCell (by omega) _ _).setCell (by omega) _ _).mono (by omega) (by simp [size_setCell])
set_option maxRecDepth 20000 in
set_option maxHeartbeats 2000000 in
/-- VectorOf. -/
theorem vectorOf_impl {l : List Int} {w : World} {v : Value} (h : IntsI w v l) (hl : l.length ≤ 1048576) :
    Calls Tryz.prog 19 #[v] w fun e w' => ∃ v, e = .returned (.tuple #[v, .bool (vecOk l)]) ∧ Arr w.heap.size w'.heap.size w' v (if vecOk l = true then [(l.length : Int)] else []) (if vecOk l = true then l else []) ∧ Below w.heap.size w w' := by
  obtain ⟨a, c, rfl, g1, i1⟩ := h
  obtain ⟨S, hS⟩ : ∃ S, S = (if vecOk l = true then [(l.length : Int)] else []) := ⟨_, rfl⟩
  obtain ⟨D, hD⟩ : ∃ D, D = (if vecOk l = true then l else []) := ⟨_, rfl⟩
  rw [← hD, ← hS]
  have HC : Hid (∀ W u, ArrI W u [(l.length : Int)] l → Calls Tryz.prog 36 #[u] W fun e w' => ∃ v', e = .returned (.tuple #[v', .bool (vecOk l)]) ∧ Arr W.heap.size w'.heap.size w' v' S D ∧ Below W.heap.size W w') := by
    intro W u hu
    have q := copyIfOk_impl hu (by simp) hl
    rw [hS, hD]
    exact q
  have HI : Hid (Ints w a l) := i1
  have HG : Hid (l.length ≤ c) := g1
  clear hD hS i1 g1
  go_enter Tryz.func19, Tryz.ntmps19
  go_wp2_with fail
  refine (HC.out _ _ ⟨_, 1, a, c, rfl, (by simpa [vals] using ints_new (w.alloc (.cells #[.slice none 0 0, .slice none 0 0] 26)) [(l.length : Int)] 3), (HI.out.alloc _).alloc _, by simp, HG.out⟩).mono ?_
  rintro r w1 ⟨v', rfl, ha, hb⟩
  obtain ⟨a', c', b', e', rfl, _, _, _, _⟩ := ha.arrI
  have HA : Hid (Arr (w.heap.size + 2) w1.heap.size w1 (.agg #[.slice a' S.length c', .slice b' D.length e']) S D) := by show Arr _ _ _ _ _ _; simpa using ha
  have HB : Hid (Below w.heap.size w w1) := bTrans (bAlloc (bAlloc (Below.refl _ _) _) _) hb
  have Y : Hid (Box w1 w.heap.size (.slice none 0 0) (.slice none 0 0) 26) := ((box_new w _ _ _).keep (bAlloc (Below.refl _ _) _)).keep hb
  clear ha hb
  have y0 := Y.out.c0
  have y1 := Y.out.c1
  have f0 : w1.frozen? ⟨w.heap.size, 0, none⟩ = false := free_at Y.out 0
  have f1 : w1.frozen? ⟨w.heap.size, 1, none⟩ = false := free_at Y.out 1
  have HR : Hid (((w1.setCell ⟨w.heap.size, 0, none⟩ (.slice a' S.length c')).setCell ⟨w.heap.size, 1, none⟩ (.slice b' D.length e')).heap[w.heap.size]? = some (.cells #[.slice a' S.length c', .slice b' D.length e'] 26 (0, 0))) := arr_stored Y.out
  go_wp2
  refine bodyPost_ret (results_arr_tmp Tryz.results19 _ _ w.heap.size _ _ rfl HR.out) rfl ?_
  refine ⟨_, rfl, ?_, below_setCell (below_setCell HB.out (Nat.le_refl _) _ _) (Nat.le_refl _) _ _⟩
  exact ((HA.out.setCell (by omega) _ _).setCell (by omega) _ _).mono (by omega) (by simp [size_setCell])
end Go.Proofs.YtcpgdhffemecbaaGreat
namespace Go.Proofs.YtcpgdhffemecbaaGreat
open Go.RowKit
set_option linter.unusedVariables false
set_option linter.unusedSimpArgs false
/-- Are all arrays of a list right? -/
def allOkV (F : List (List Int)) (m : Nat) : Bool := (List.range m).all fun i => arrOk (F.getD (2 * i) []) (F.getD (2 * i + 1) [])
theorem allOkV_succ (F : List (List Int)) (m : Nat) : allOkV F (m + 1) = (allOkV F m && arrOk (F.getD (2 * m) []) (F.getD (2 * m + 1) [])) := by
  unfold allOkV; rw [List.range_succ, List.all_append]; simp
theorem allOkV_no {F : List (List Int)} {m k : Nat} (hk : k < m) (h : arrOk (F.getD (2 * k) []) (F.getD (2 * k + 1) []) = false) : allOkV F m = false := by
  unfold allOkV
  rw [List.all_eq_false]
  exact ⟨k, by simpa using hk, by rw [h]; decide⟩
set_option maxRecDepth 20000 in
set_option maxHeartbeats 1000000 in
/-- allOk. -/
theorem allOk_impl {F : List (List Int)} {w : World} {m ca : Nat} {aa : Option Addr} (hA : ArrsI w (.slice aa m ca) F) (hm : m ≤ 2) (hL : ∀ j, (F.getD j []).length ≤ 1048576) :
    Calls Tryz.prog 46 #[.slice aa m ca] w fun r w' => r = .returned (.bool (allOkV F m)) ∧ Below w.heap.size w w' := by
  have HA : Hid (ArrsI w (.slice aa m ca) F) := hA
  have HL : Hid (∀ j, (F.getD j []).length ≤ 1048576) := hL
  clear hA hL
  go_enter Tryz.func46, Tryz.ntmps46
  go_wp2
  go_loopw [7] (fun i w' => ∃ k : Nat, k ≤ m ∧ i = .int .i64 (k : Int) ∧ allOkV F k = true ∧ Below w.heap.size w w') (fun i _ => m - (intOf i).toNat)
  case atStart => exact ⟨0, by omega, rfl, rfl, Below.refl _ _⟩
  case round =>
    obtain ⟨j, hk, rfl, ht, hb⟩ := hrel
    have HT : Hid (allOkV F j = true) := ht
    have HB : Hid (Below w.heap.size w wr) := hb
    clear ht hb
    by_cases hlt : (j : Int) < (m : Int)
    · obtain ⟨o, off, sx, sy, rfl, ho, p0, p1, i0, i1⟩ := (HA.out.keep HB.out).at (k := j) (by omega)
      obtain ⟨ax, cx, rfl, gix, ix⟩ := i0
      obtain ⟨ay, cy, rfl, giy, iy⟩ := i1
      have A1 : Hid (ArrI wr (.agg #[.slice ax (F.getD (2 * j) []).length cx, .slice ay (F.getD (2 * j + 1) []).length cy]) (F.getD (2 * j) []) (F.getD (2 * j + 1) [])) := ⟨_, _, _, _, rfl, ix, iy, gix, giy⟩
      have HC : Hid (∀ W, Below wr.heap.size wr W → Calls Tryz.prog 21 #[.agg #[.slice ax (F.getD (2 * j) []).length cx, .slice ay (F.getD (2 * j + 1) []).length cy]] W fun e w' => e = .returned (.bool (arrOk (F.getD (2 * j) []) (F.getD (2 * j + 1) []))) ∧ Below W.heap.size W w') := fun W h => arrOk_impl (A1.out.keep h) (HL.out _)
      have HY : Hid (arrOk (F.getD (2 * j) []) (F.getD (2 * j + 1) []) = true → allOkV F (j + 1) = true) := fun h => by rw [allOkV_succ, HT.out, h]; rfl
      have HN : Hid (arrOk (F.getD (2 * j) []) (F.getD (2 * j + 1) []) = false → allOkV F m = false) := fun h => allOkV_no (by omega) h
      clear ix iy gix giy A1
      generalize (F.getD (2 * j) []).length = ls at *
      generalize (F.getD (2 * j + 1) []).length = ld at *
      generalize arrOk (F.getD (2 * j) []) (F.getD (2 * j + 1) []) = q at *
      cases q
      · have HN' : Hid (allOkV F m = false) := HN.out rfl
        clear HN HY
        go_wp2_with fail
        refine (HC.out _ (bAlloc (Below.refl _ _) _)).mono ?_
        rintro r w2 ⟨rfl, hb⟩
        have HB2 : Hid (Below w.heap.size w w2) := bTrans HB.out (bTrans (bAlloc (Below.refl _ _) _) hb)
        clear hb
        go_wp2
        go_ret
        exact ⟨by rw [HN'.out]; rfl, HB2.out⟩
      · have HY' : Hid (allOkV F (j + 1) = true) := HY.out rfl
        clear HN HY
        go_wp2_with fail
        refine (HC.out _ (bAlloc (Below.refl _ _) _)).mono ?_
        rintro r w2 ⟨rfl, hb⟩
        have HB2 : Hid (Below w.heap.size w w2) := bTrans HB.out (bTrans (bAlloc (Below.refl _ _) _) hb)
        clear hb
        go_wp2
        go_roundw
        case rel => exact ⟨j + 1, by omega, by go_num, HY'.out, HB2.out⟩
        case measure => simp [intOf]; omega
    · obtain rfl : j = m := by omega
      go_wp2
      go_ret
      exact ⟨by rw [HT.out]; rfl, HB.out⟩
set_option maxRecDepth 20000 in
set_option maxHeartbeats 1000000 in
/-- vectorCopy. -/
theorem vecCopy_impl {l : List Int} {w : World} {v : Value} (h : IntsI w v l) (hl : l.length ≤ 1048576) :
    Calls Tryz.prog 103 #[v] w fun r w' => ∃ v', r = .returned v' ∧ Arr w.heap.size w'.heap.size w' v' [(l.length : Int)] l ∧ Below w.heap.size w w' := by
  obtain ⟨a, c, rfl, g, i⟩ := h
  have HI : Hid (IntsI w (.slice a l.length c) l) := ⟨a, c, rfl, g, i⟩
  have HC : Hid (∀ W, Below w.heap.size w W → Calls Tryz.prog 70 #[.slice a l.length c] W fun e w' => ∃ a' c', e = .returned (.slice a' l.length c') ∧ Piece W.heap.size w'.heap.size w' (.slice a' l.length c') l ∧ Below W.heap.size W w') := fun W h => copied_new (HI.out.keep h) hl
  clear g i
  go_enter Tryz.func103, Tryz.ntmps103
  go_wp2_with fail
  refine (HC.out _ (bAlloc (bAlloc (Below.refl _ _) _) _)).mono ?_
  rintro r w1 ⟨a2, c2, rfl, hp, hb⟩
  have HP : Hid (Piece (w.heap.size + 2) w1.heap.size w1 (.slice a2 l.length c2) l) := by show Piece _ _ _ _ _; simpa using hp
  have HB : Hid (Below w.heap.size w w1) := bTrans (bAlloc (bAlloc (Below.refl _ _) _) _) hb
  have Y : Hid (Box w1 w.heap.size (.slice none 0 0) (.slice none 0 0) 26) := ((box_new w _ _ _).keep (bAlloc (Below.refl _ _) _)).keep hb
  have PS : Hid (Piece (w.heap.size + 1) (w.heap.size + 2) w1 (.slice (some ⟨w.heap.size + 1, 0, none⟩) 1 1) [(l.length : Int)]) := by
    have p := OwnInts.piece (ownInts_new (w.alloc (.cells #[.slice none 0 0, .slice none 0 0] 26)) [(l.length : Int)]) (B := w.heap.size + 1) (C := w.heap.size + 2) (by simp) (by simp) 1
    have p' : Piece (w.heap.size + 1) (w.heap.size + 2) ((w.alloc (.cells #[.slice none 0 0, .slice none 0 0] 26)).alloc (.cells #[.int .i64 (l.length : Int)] 3)) (.slice (some ⟨w.heap.size + 1, 0, none⟩) 1 1) [(l.length : Int)] := by simpa [vals] using p
    exact p'.keep hb
  have LT : Hid (w.heap.size + 2 ≤ w1.heap.size) := by have := hb.size; show _ ≤ _; simpa using this
  clear hp hb
  have y0 := Y.out.c0
  have y1 := Y.out.c1
  have f0 : w1.frozen? ⟨w.heap.size, 0, none⟩ = false := free_at Y.out 0
  have f1 : w1.frozen? ⟨w.heap.size, 1, none⟩ = false := free_at Y.out 1
  have HR : Hid (((w1.setCell ⟨w.heap.size, 0, none⟩ (.slice (some ⟨w.heap.size + 1, 0, none⟩) 1 1)).setCell ⟨w.heap.size, 1, none⟩ (.slice a2 l.length c2)).heap[w.heap.size]? = some (.cells #[.slice (some ⟨w.heap.size + 1, 0, none⟩) 1 1, .slice a2 l.length c2] 26 (0, 0))) := arr_stored Y.out
  go_wp2
  refine bodyPost_ret (v := .agg #[.slice (some ⟨w.heap.size + 1, 0, none⟩) 1 1, .slice a2 l.length c2]) (results_arr rfl _ _ w.heap.size _ _ rfl HR.out) rfl ?_
  refine ⟨_, rfl, ?_, below_setCell (below_setCell HB.out (Nat.le_refl _) _ _) (Nat.le_refl _) _ _⟩
  have L := LT.out
  have p1' := (PS.out.win (win_setCell w1 w.heap.size 0 (.slice (some ⟨w.heap.size + 1, 0, none⟩) 1 1)) (.inr (by omega))).win (win_setCell _ w.heap.size 1 (.slice a2 l.length c2)) (.inr (by omega))
  have p2' := (HP.out.win (win_setCell w1 w.heap.size 0 (.slice (some ⟨w.heap.size + 1, 0, none⟩) 1 1)) (.inr (by omega))).win (win_setCell _ w.heap.size 1 (.slice a2 l.length c2)) (.inr (by omega))
  exact ⟨_, _, rfl, p1'.mono (by omega) (by simp only [size_setCell]; omega), p2'.mono (by omega) (by simp only [size_setCell]; omega), p1'.apart p2' (.inl (by omega))⟩
/-- What soleNumber tells: a code, and the number beside it. -/
def soleC (s d : List Int) (q : Bool) : Int := if arrOk s d = true ∧ q = true then (if d.length ≠ 1 then 3 else 0) else 1
def soleV (s d : List Int) (q : Bool) : Int := if soleC s d q = 0 then d.getD 0 0 else 0
set_option maxRecDepth 20000 in
set_option maxHeartbeats 2000000 in
/-- soleNumber. -/
theorem sole_impl {s d : List Int} {F : List (List Int)} {w : World} {v : Value} {m ca : Nat} {aa : Option Addr} (h : ArrI w v s d) (hd : d.length ≤ 1048576) (hA : ArrsI w (.slice aa m ca) F) (hm : m ≤ 2) (hL : ∀ j, (F.getD j []).length ≤ 1048576) :
    Calls Tryz.prog 37 #[v, .slice aa m ca] w fun r w' => r = .returned (.tuple #[.int .i64 (soleV s d (allOkV F m)), .int .i64 (soleC s d (allOkV F m))]) ∧ Below w.heap.size w w' := by
  have H : Hid (ArrI w v s d) := h
  have HC : Hid (∀ W, Below w.heap.size w W → Calls Tryz.prog 46 #[.slice aa m ca] W fun r w' => r = .returned (.bool (allOkV F m)) ∧ Below W.heap.size W w') := fun W h => allOk_impl (hA.keep h) hm hL
  have HD : Hid (∀ W, Below w.heap.size w W → Calls Tryz.prog 21 #[v] W fun r w' => r = .returned (.bool (arrOk s d)) ∧ Below W.heap.size W w') := fun W hb => arrOk_impl (h.keep hb) hd
  obtain ⟨a, c, b, e, rfl, _, ib, _, _⟩ := h
  have HI : Hid (Ints w b d) := ib
  clear hA hm hL hd ib
  generalize allOkV F m = q at *
  obtain ⟨x, hx⟩ : ∃ x, x = soleV s d q := ⟨_, rfl⟩
  obtain ⟨y, hy⟩ : ∃ y, y = soleC s d q := ⟨_, rfl⟩
  rw [← hx, ← hy]
  have E1 : Hid (arrOk s d = false → y = 1 ∧ x = 0) := fun h => by
    have : soleC s d q = 1 := by unfold soleC; rw [if_neg (by rw [h]; simp)]
    rw [hy, hx]; unfold soleV; rw [this]; exact ⟨rfl, rfl⟩
  have E2 : Hid (q = false → y = 1 ∧ x = 0) := fun h => by
    have : soleC s d q = 1 := by unfold soleC; rw [if_neg (by rw [h]; simp)]
    rw [hy, hx]; unfold soleV; rw [this]; exact ⟨rfl, rfl⟩
  have E3 : Hid (arrOk s d = true → q = true → d.length ≠ 1 → y = 3 ∧ x = 0) := fun h1 h2 h3 => by
    have : soleC s d q = 3 := by unfold soleC; rw [if_pos ⟨h1, h2⟩, if_pos h3]
    rw [hy, hx]; unfold soleV; rw [this]; exact ⟨rfl, rfl⟩
  have E4 : Hid (arrOk s d = true → q = true → d.length = 1 → y = 0 ∧ x = d.getD 0 0) := fun h1 h2 h3 => by
    have : soleC s d q = 0 := by unfold soleC; rw [if_pos ⟨h1, h2⟩, if_neg (by simpa using h3)]
    rw [hy, hx]; unfold soleV; rw [this]; exact ⟨rfl, rfl⟩
  clear hx hy
  generalize arrOk s d = z at *
  go_enter Tryz.func37, Tryz.ntmps37
  go_wp2_with fail
  refine (HD.out _ (bAlloc (Below.refl _ _) _)).mono ?_
  rintro r w1 ⟨rfl, hb⟩
  have HB : Hid (Below w.heap.size w w1) := bTrans (bAlloc (Below.refl _ _) _) hb
  have X : Hid (Box w1 w.heap.size (.slice a s.length c) (.slice b d.length e) 26) := (box_new w _ _ _).keep hb
  clear hb
  cases z
  · obtain ⟨rfl, rfl⟩ := E1.out rfl
    clear E1 E2 E3 E4
    go_wp2
    go_ret2
    exact ⟨rfl, HB.out⟩
  · go_wp2_with fail
    refine (HC.out _ HB.out).mono ?_
    rintro r w2 ⟨rfl, hb⟩
    have HB2 : Hid (Below w.heap.size w w2) := bTrans HB.out hb
    have X2 : Hid (Box w2 w.heap.size (.slice a s.length c) (.slice b d.length e) 26) := X.out.keep hb
    clear hb
    cases q
    · obtain ⟨rfl, rfl⟩ := E2.out (by trivial)
      clear E1 E2 E3 E4
      go_wp2
      go_ret2
      exact ⟨rfl, HB2.out⟩
    · have x1 := X2.out.c1
      by_cases hl : d.length = 1
      · obtain ⟨rfl, hx⟩ := E4.out (by trivial) (by trivial) hl
        clear E1 E2 E3 E4
        obtain ⟨b1, o1, rfl, _, c1⟩ := (HI.out.keep HB2.out).at (k := 0) (by omega)
        rw [Nat.add_zero, ← hx] at c1
        rw [hl] at x1
        clear hl hx
        go_wp2
        go_ret2
        exact ⟨rfl, HB2.out⟩
      · obtain ⟨rfl, rfl⟩ := E3.out (by trivial) (by trivial) hl
        clear E1 E2 E3 E4
        have hne : ((d.length : Int) != 1) = true := by simp; omega
        generalize d.length = n at *
        clear hl
        go_wp2
        go_ret2
        exact ⟨rfl, HB2.out⟩
/-- The shape as withRows has it. -/
def rowsS (s : List Int) : List Int := if s = [] then [1] else s
set_option maxRecDepth 20000 in
set_option maxHeartbeats 2000000 in
/-- withRows. -/
theorem withRows_impl {s d : List Int} {w : World} {v : Value} (h : ArrI w v s d) (hs : s.length ≤ 1048576) :
    Calls Tryz.prog 38 #[v] w fun r w' => ∃ v', r = .returned v' ∧ ArrI w' v' (rowsS s) d ∧ Below w.heap.size w w' := by
  have H : Hid (ArrI w v s d) := h
  obtain ⟨a, c, b, e, rfl, ia, ib, ga, gb⟩ := h
  by_cases h0 : s = []
  · have HS : Hid (rowsS s = [1]) := by show _ = _; unfold rowsS; rw [if_pos h0]
    have HI : Hid (Ints w b d ∧ d.length ≤ e) := ⟨ib, gb⟩
    subst h0
    clear ia ib ga gb H
    rw [HS.out]
    simp only [List.length_nil]
    go_enter Tryz.func38, Tryz.ntmps38
    go_wp2
    refine bodyPost_ret (v := .agg #[.slice (some ⟨w.heap.size + 2, 0, none⟩) 1 1, .slice b d.length e]) (results_arr rfl _ _ (w.heap.size + 1) _ _ rfl ?_) rfl ?_
    · exact (box_new2 w _ _ _ _).keep (bAlloc (Below.refl _ _) _)
    · refine ⟨_, rfl, ⟨_, 1, b, e, rfl, ?_, ?_, by simp, HI.out.2⟩, bAlloc (bAlloc (bAlloc (Below.refl _ _) _) _) _⟩
      · have q := ints_new ((w.alloc (.cells #[.slice a 0 c, .slice b d.length e] 26)).alloc (.cells #[.slice (some ⟨w.heap.size + 1 + 1, 0, none⟩) 1 1, .slice b d.length e] 26)) [1] 3
        simpa [vals] using q
      · exact ((HI.out.1.alloc _).alloc _).alloc _
  · have HS : Hid (rowsS s = s) := by show _ = _; unfold rowsS; rw [if_neg h0]
    have hne : ((s.length : Int) == 0) = false := by
      have : s.length ≠ 0 := fun h => h0 (List.eq_nil_of_length_eq_zero h)
      simp; exact h0
    have HL : Hid (s.length ≤ 1048576) := hs
    rw [HS.out]
    clear ia ib ga gb h0 hs HS
    generalize s.length = n at *
    go_enter Tryz.func38, Tryz.ntmps38
    go_wp2
    refine bodyPost_ret (v := .agg #[.slice a n c, .slice b d.length e]) (results_arr rfl _ _ (w.heap.size + 1) _ _ rfl ?_) rfl ?_
    · exact box_new2 w _ _ _ _
    · exact ⟨_, rfl, H.out.keep (bAlloc (bAlloc (Below.refl _ _) _) _), bAlloc (bAlloc (Below.refl _ _) _) _⟩
set_option maxRecDepth 20000 in
set_option maxHeartbeats 2000000 in
/-- ofRows. -/
theorem ofRows_impl {s : List Int} {w : World} {v : Value} (x : Int) (h : IntsI w v s) (hs : s.length ≤ 1048576) (h0 : s ≠ []) :
    Calls Tryz.prog 40 #[v, .int .i64 x] w fun r w' => ∃ a' c', r = .returned (.slice a' (x :: s.drop 1).length c') ∧ Piece w.heap.size w'.heap.size w' (.slice a' (x :: s.drop 1).length c') (x :: s.drop 1) ∧ Below w.heap.size w w' := by
  obtain ⟨a, c, rfl, g, i⟩ := h
  have HC : Hid (Calls Tryz.prog 70 #[.slice a s.length c] w fun e w' => e = .returned (.slice (some ⟨w.heap.size, 0, none⟩) s.length s.length) ∧ w' = w.alloc (.cells (vals s) 3)) := copied_impl c i hs
  have hp : 0 < s.length := by cases s with | nil => exact absurd rfl h0 | cons _ _ => simp
  have hp' : (0 : Int) < (s.length : Int) := by omega
  have EL : Hid ((x :: s.drop 1).length = s.length) := by show _ = _; simp; omega
  have ES : Hid (s.set 0 x = x :: s.drop 1) := by cases s with | nil => exact absurd rfl h0 | cons _ _ => rfl
  have HL : Hid (s.length ≤ 1048576) := hs
  rw [EL.out]
  clear i g hs h0
  go_enter Tryz.func40, Tryz.ntmps40
  go_wp2_with fail
  refine HC.out.mono ?_
  rintro r w1 ⟨rfl, hw⟩
  have HB : Hid (Below w.heap.size w w1) := by rw [hw]; exact bAlloc (Below.refl _ _) _
  have HP : Hid (Piece w.heap.size (w.heap.size + 1) w1 (.slice (some ⟨w.heap.size, 0, none⟩) s.length s.length) s) := by
    rw [hw]; exact OwnInts.piece (ownInts_new w s) (Nat.le_refl _) (by simp) _
  have LT : Hid (w.heap.size + 1 ≤ w1.heap.size) := by rw [hw]; show _ ≤ _; simp
  clear hw HC
  obtain ⟨t1, t2, _, _, _⟩ := HP.out.cellAt (k := 0) hp
  rw [Nat.zero_add] at t1 t2
  generalize s.getD 0 0 = z at t1
  go_wp2
  go_ret
  refine ⟨_, _, rfl, ?_, below_setCell HB.out (Nat.le_refl _) _ _⟩
  have q := HP.out.set hp x
  rw [ES.out] at q
  exact q.mono (Nat.le_refl _) (by rw [size_setCell]; exact LT.out)
end Go.Proofs.YtcpgdhffemecbaaGreat
namespace Go.Proofs.YtcpgdhffemecbaaGreat
set_option linter.unusedVariables false
theorem chosen_in {s d : List Int} (ho : arrOk s d = true) (hs : s ≠ []) {f : Nat} {φ : Nat → Int} : ∀ (n : Nat), f + n ≤ rowsN s → (∀ k, k < n → φ k = ((f + k : Nat) : Int)) → chosenD s d φ n = (d.drop (f * rowN s)).take (n * rowN s) := by
  have e2 := (rowsN5 ho).2
  intro n
  induction n with
  | zero => intro _ _; simp [chosenD]
  | succ n ih =>
    intro h hφ
    rw [chosenD_succ, ih (by omega) (fun k hk => hφ k (by omega)), Nat.succ_mul, List.take_add, List.drop_drop]
    congr 1
    unfold chosenRow
    rw [hφ n (by omega), if_pos ⟨by omega, by rw [e2]; omega⟩, Int.toNat_natCast]
    unfold rowAt
    rw [Nat.add_mul]
theorem chosen_out {s d : List Int} {φ : Nat → Int} : ∀ (n : Nat), (∀ k, k < n → ¬ (0 ≤ φ k ∧ φ k < s.getD 0 0)) → chosenD s d φ n = List.replicate (n * rowN s) 0 := by
  intro n
  induction n with
  | zero => intro _; simp [chosenD]
  | succ n ih =>
    intro h
    rw [chosenD_succ, ih (fun k hk => h k (by omega))]
    unfold chosenRow
    rw [if_neg (h n (by omega)), List.replicate_append_replicate, Nat.succ_mul]
theorem chosen_add (s d : List Int) (φ : Nat → Int) (m : Nat) : ∀ n, chosenD s d φ (m + n) = chosenD s d φ m ++ chosenD s d (fun k => φ (m + k)) n := by
  intro n
  induction n with
  | zero => simp [chosenD]
  | succ n ih => rw [← Nat.add_assoc, chosenD_succ, ih, chosenD_succ, List.append_assoc]
theorem rowsS_ok {t e : List Int} (h : arrOk t e = true) : arrOk (rowsS t) e = true ∧ rowsS t ≠ [] ∧ vecS t e = rowsS t := by
  unfold rowsS vecS
  by_cases ht : t = []
  · subst ht
    have z := arrOk_size h
    rw [sizeV_0'] at z
    have e1 : e.length = 1 := by omega
    refine ⟨?_, by simp, by rw [if_pos rfl, if_pos rfl, e1]; rfl⟩
    unfold arrOk at *
    rw [if_pos rfl]
    rw [Bool.and_eq_true] at *
    exact ⟨by rw [e1]; decide, h.2⟩
  · rw [if_neg ht, if_neg ht]
    exact ⟨h, ht, rfl⟩
theorem take_chosen {t e : List Int} {x : Int} (h : arrOk t e = true) : chosenD (rowsS t) e (fun k => (if x < 0 then (rowsS t).getD 0 0 + x else 0) + (k : Int)) (manyV x).toNat = takeD x t e := by
  obtain ⟨ho, hs, hv⟩ := rowsS_ok h
  obtain ⟨e1, e2⟩ := rowsN5 ho
  have q := rows5 ho hs
  unfold takeD haveN
  rw [hv]
  generalize hM : (manyV x).toNat = M
  generalize hH : min M (rowsN (rowsS t)) = H
  by_cases hx : 0 ≤ x
  · rw [if_pos hx]
    have : M = H + (M - H) := by omega
    conv => lhs; rw [this]
    rw [chosen_add, chosen_in ho hs (f := 0) H (by omega) (fun k hk => by rw [if_neg (by omega)]; omega), chosen_out (M - H) (fun k hk => by rw [if_neg (by omega), e2]; omega)]
    simp
  · rw [if_neg hx]
    have hm : (M : Int) = -x := by rw [← hM]; unfold manyV; rw [if_neg (by omega)]; omega
    have : M = (M - H) + H := by omega
    conv => lhs; rw [this]
    rw [chosen_add, chosen_out (M - H) (fun k hk => by rw [if_pos (by omega), e2]; omega), chosen_in ho hs (f := rowsN (rowsS t) - H) H (by omega) (fun k hk => by rw [if_pos (by omega), e2]; omega)]
    congr 1
    apply List.take_of_length_le
    rw [List.length_drop, ← q, ← Nat.sub_mul]
    apply Nat.mul_le_mul_right
    omega
theorem drop_chosen {t e : List Int} {x : Int} (h : arrOk t e = true) : chosenD (rowsS t) e (fun k => (if x < 0 then 0 else x) + (k : Int)) (rowsN (vecS t e) - haveN x t e) = dropD x t e := by
  obtain ⟨ho, hs, hv⟩ := rowsS_ok h
  obtain ⟨e1, e2⟩ := rowsN5 ho
  have q := rows5 ho hs
  unfold dropD haveN
  rw [hv]
  generalize hM : (manyV x).toNat = M
  generalize hH : min M (rowsN (rowsS t)) = H
  by_cases hx : 0 ≤ x
  · rw [if_pos hx]
    have hm : (M : Int) = x := by rw [← hM]; unfold manyV; split <;> omega
    by_cases hc : M ≤ rowsN (rowsS t)
    · rw [chosen_in ho hs (f := H) (rowsN (rowsS t) - H) (by omega) (fun k hk => by rw [if_neg (by omega)]; omega)]
      apply List.take_of_length_le
      rw [List.length_drop, ← q, ← Nat.sub_mul]
      exact Nat.le_refl _
    · have hz : rowsN (rowsS t) - H = 0 := by omega
      have hz2 : H = rowsN (rowsS t) := by omega
      rw [hz, hz2, q, List.drop_length]
      rfl
  · rw [if_neg hx]
    rw [chosen_in ho hs (f := 0) (rowsN (rowsS t) - H) (by omega) (fun k hk => by rw [if_pos (by omega)]; omega)]
    simp
theorem drop_count {t e : List Int} {x : Int} (h : arrOk t e = true) : (((rowsN (vecS t e) - haveN x t e : Nat)) : Int) = max (if x < 0 then (rowsS t).getD 0 0 + x else (rowsS t).getD 0 0 - x) 0 := by
  obtain ⟨ho, hs, hv⟩ := rowsS_ok h
  obtain ⟨e1, e2⟩ := rowsN5 ho
  unfold haveN manyV
  rw [hv, e2]
  by_cases hx : x < 0
  · rw [if_pos hx, if_neg (by omega)]; omega
  · rw [if_neg hx]; split <;> omega
end Go.Proofs.YtcpgdhffemecbaaGreat
namespace Go.Proofs.YtcpgdhffemecbaaGreat
set_option linter.unusedVariables false
/-- From the last row on, by those that were told. -/
def accR (g : Int) (t : List Int) (R : List (List Int)) (m : Nat) (pre : List (Fin m)) : Int × List Int :=
  pre.foldl (fun acc x => if acc.1 = 0 then (eachTwoC g t (R.getD (m - 1 - x.1) []) t acc.2, eachTwoD g t (R.getD (m - 1 - x.1) []) t acc.2) else acc) (0, R.getD m [])
theorem accR_nil (g : Int) (t : List Int) (R : List (List Int)) (m : Nat) : accR g t R m [] = (0, R.getD m []) := rfl
theorem accR_snoc {g : Int} {t : List Int} {R : List (List Int)} {m : Nat} {pre : List (Fin m)} {D : List Int} (x : Fin m) (h : accR g t R m pre = (0, D)) : accR g t R m (pre ++ [x]) = (eachTwoC g t (R.getD (m - 1 - x.1) []) t D, eachTwoD g t (R.getD (m - 1 - x.1) []) t D) := by
  have h' := h
  unfold accR at h' ⊢
  rw [List.foldl_append, h']
  rfl
theorem accR_stop {g : Int} {t : List Int} {R : List (List Int)} {m : Nat} {pre : List (Fin m)} (x : Fin m) (h : (accR g t R m pre).1 ≠ 0) : accR g t R m (pre ++ [x]) = accR g t R m pre := by
  have h' := h
  unfold accR at h' ⊢
  rw [List.foldl_append, List.foldl_cons, List.foldl_nil, if_neg h']
theorem accR_to {g : Int} {t : List Int} {R : List (List Int)} {m : Nat} (hR : R.length = m + 1) : ∀ k, k ≤ m → accR g t R m ((List.finRange m).take k) = redL g t (R.drop (m - k)) := by
  intro k
  induction k with
  | zero =>
    intro _
    rw [List.take_zero, accR_nil, Nat.sub_zero, drop_at (by omega), List.drop_eq_nil_of_le (by omega), redL_one]
  | succ k ih =>
    intro hk
    have q := ih (by omega)
    have e : (List.finRange m).take (k + 1) = (List.finRange m).take k ++ [⟨k, by omega⟩] := by
      rw [List.take_succ_eq_append_getElem (by rw [List.length_finRange]; omega)]
      simp
    rw [e, drop_at (R := R) (i := m - (k + 1)) (by omega), show m - (k + 1) + 1 = m - k by omega]
    by_cases h0 : (redL g t (R.drop (m - k))).1 = 0
    · have h1 : accR g t R m ((List.finRange m).take k) = (0, (redL g t (R.drop (m - k))).2) := by rw [q]; exact Prod.ext h0 rfl
      rw [accR_snoc _ h1, redL_cons (by intro e; have := congrArg List.length e; rw [List.length_drop, List.length_nil] at this; omega) h0]
      simp only []
      rw [show m - 1 - k = m - (k + 1) by omega]
    · rw [accR_stop _ (by rw [q]; exact h0), q, redL_stop h0]
      exact Prod.ext rfl (redL_none h0)
theorem accR_len {g : Int} {t : List Int} {R : List (List Int)} {m : Nat} (h : (R.getD m []).length ≤ 300) (pre : List (Fin m)) : (accR g t R m pre).2.length ≤ 300 := by
  unfold accR
  have key : ∀ (pre : List (Fin m)) (acc : Int × List Int), acc.2.length ≤ 300 → (pre.foldl (fun acc x => if acc.1 = 0 then (eachTwoC g t (R.getD (m - 1 - x.1) []) t acc.2, eachTwoD g t (R.getD (m - 1 - x.1) []) t acc.2) else acc) acc).2.length ≤ 300 := by
    intro pre
    induction pre with
    | nil => intro acc ha; exact ha
    | cons x xs ih =>
      intro acc ha
      rw [List.foldl_cons]
      apply ih
      split
      · exact eachTwoD_len _ _ _ _ _
      · exact ha
  exact key pre _ h
end Go.Proofs.YtcpgdhffemecbaaGreat
namespace Go.Proofs.YtcpgdhffemecbaaGreat
open Go.RowKit Go.Shelf
set_option linter.unusedVariables false
set_option linter.unusedSimpArgs false
attribute [local go_sem] Oper.semAt_some
theorem wrapJ {a : Int} (h0 : 0 ≤ a) (h1 : a ≤ 1099511627776) : IntKind.i64.wrap a = a := by rw [IntKind.wrap_i64]; omega
/-- The first k numbers. -/
def upto (cnt k : Nat) : List (Fin cnt) := (List.finRange cnt).take k
theorem upto_succ {cnt k : Nat} (h : k < cnt) : upto cnt (k + 1) = upto cnt k ++ [⟨k, h⟩] := by
  unfold upto
  rw [List.take_succ_eq_append_getElem (by simpa using h)]
  simp
theorem upto_length {cnt k : Nat} (h : k ≤ cnt) : (upto cnt k).length = k := by simp [upto, h]
theorem upto_all (cnt : Nat) : upto cnt cnt = List.finRange cnt := by unfold upto; exact List.take_of_length_le (by simp)
/-- What a round keeps: the box of the array that is cut. -/
def KeepsBox (q : Nat) (W W' : World) : Prop := W'.heap[q]? = W.heap[q]?
theorem keepsBox_t {q : Nat} {A B C : World} (h : KeepsBox q A B) (k : KeepsBox q B C) : KeepsBox q A C := Eq.trans k h
theorem keepsBox_b {q : Nat} {w : World} (hq : q < w.heap.size) (W : World) (l : Nat) (o o' : Obj) (hl : w.heap.size ≤ l) (_ : W.heap[l]? = some o) (_ : o.isCells = false) (_ : o.isWalk = false) : KeepsBox q W (W.putObj l o') :=
  World.putObj_heap_other (by omega)
set_option maxRecDepth 100000 in
set_option maxHeartbeats 4000000 in
theorem cut_in (n l q cnt N r b1 o1 c dl e ct : Nat) (tl b : Option Addr) (ad : Nat → Option Addr) (cd : Nat → Nat) (hn : 1 ≤ n) (hc : cnt ≤ 300) (hN : N ≤ 300) (hr : r ≤ 3)
    (hq : 0 < cnt → (dl : Int) / (cnt : Int) = N)
    (hs1 : ∀ W, (Instr.slice 24 (.slice (some ⟨b1, o1, none⟩) (r + 1) c) (some (.int .i64 1)) (some (.int .i64 ((r : Int) + 1))) (some (.int .i64 ((r : Int) + 1)))).run Tryz.prog W = .ok (.slice tl r ct) W)
    (hs2 : ∀ (k M R : Nat) W, k < cnt → k * N = M → (k + 1) * N = R → (Instr.slice 24 (.slice b dl e) (some (.int .i64 (M : Int))) (some (.int .i64 (R : Int))) (some (.int .i64 (R : Int)))).run Tryz.prog W = .ok (.slice (ad k) N (cd k)) W)
    (J Jx : List (Fin cnt) → World → Prop)
    (hY : ∀ pre x W, J pre W → pre.length < cnt → YieldAt Fence.wide (n - 1) Tryz.prog l #[.agg #[.slice tl r ct, .slice (ad x.1) N (cd x.1)]] W fun e W' =>
      (e = .returned (.bool true) ∧ J (pre ++ [x]) W' ∧ KeepsBox q W W') ∨ (e = .returned (.bool false) ∧ Jx (pre ++ [x]) W'))
    (W : World) (hJ : AbidesFrom W.heap.size J) (hB : Box W q (.slice (some ⟨b1, o1, none⟩) (r + 1) c) (.slice b dl e) 26) (h0 : W.cell? ⟨b1, o1, none⟩ = some (.int .i64 (cnt : Int))) (hj : J [] W) :
    CallsIn Fence.wide n Tryz.prog 74 #[.func (.yield l) #[] #[], .pointer (some ⟨q, 0, none⟩)] W fun e W' => (∃ v, e = .returned v) ∧
      ((∃ ys, ys = List.finRange cnt ∧ J ys W') ∨ (∃ pre, True ∧ Jx pre W')) := by
  have HB : Hid (Box W q (.slice (some ⟨b1, o1, none⟩) (r + 1) c) (.slice b dl e) 26) := hB
  have x0 := hB.c0
  have x1 := hB.c1
  clear hB
  refine callsIn_of_wp Tryz.func74 rfl trivial ?_ rfl
  simp only [Tryz.ntmps74, List.size_toArray, List.length_cons, List.length_nil, Nat.reduceAdd, Nat.reduceSub, Array.replicate_succ, Array.replicate_zero, List.push_toArray, List.append_toArray, List.nil_append, List.cons_append]
  gi_wp2
  gi_region
  gi_wp2
  have HQ : Hid (0 < cnt → (dl : Int) / (cnt : Int) = N) := hq
  have HS2 : Hid (∀ (k M R : Nat) W, k < cnt → k * N = M → (k + 1) * N = R → (Instr.slice 24 (.slice b dl e) (some (.int .i64 (M : Int))) (some (.int .i64 (R : Int))) (some (.int .i64 (R : Int)))).run Tryz.prog W = .ok (.slice (ad k) N (cd k)) W) := hs2
  have HJ : Hid (AbidesFrom W.heap.size J) := hJ
  clear hq hs2 x0 x1 hJ
  gi_loopw [18] (fun i wr => ∃ k : Nat, k ≤ cnt ∧ i = .int .i64 k ∧ J (upto cnt k) wr ∧ KeepsBox q W wr)
    (fun i _ => cnt - (intOf i).toNat)
  case atStart => exact ⟨0, by omega, rfl, HJ.out _ _ _ none hj ⟨rfl, rfl, rfl, Nat.le_refl _, fun _ _ _ => rfl⟩ (fun r e => by cases e), rfl⟩
  case round =>
    obtain ⟨k, hk, rfl, hJs, hnx⟩ := hrel
    have X : Hid (Box wr q (.slice (some ⟨b1, o1, none⟩) (r + 1) c) (.slice b dl e) 26) := by
      have := HB.out; unfold Box at this; show wr.heap[q]? = _; rw [show wr.heap[q]? = W.heap[q]? from hnx]; exact this
    by_cases hlt : (k : Int) < (cnt : Int)
    · obtain ⟨M, hM⟩ : ∃ M : Nat, k * N = M := ⟨_, rfl⟩
      obtain ⟨R, hR⟩ : ∃ R : Nat, (k + 1) * N = R := ⟨_, rfl⟩
      have hs2 := fun W => HS2.out k M R W (by omega) hM hR
      have hR1 : R ≤ 90000 := by
        have h1 : (k + 1) * N ≤ 300 * 300 := Nat.mul_le_mul (by omega) hN
        omega
      have hM1 : M ≤ 90000 := by
        have h1 : k * N ≤ 300 * 300 := Nat.mul_le_mul (by omega) hN
        omega
      have eM : (k : Int) * (N : Int) = (M : Int) := by rw [← hM]; simp
      have eR : ((k : Int) + 1) * (N : Int) = (R : Int) := by rw [← hR]; simp
      have hwM : IntKind.i64.wrap (M : Int) = (M : Int) := wrapJ (by omega) (by omega)
      have hwR : IntKind.i64.wrap (R : Int) = (R : Int) := wrapJ (by omega) (by omega)
      have hdv : (dl : Int) / (cnt : Int) = N := HQ.out (by omega)
      have hpos : (0 : Int) < (cnt : Int) := by omega
      have HL : Hid (k < cnt) := by show _ < _; omega
      have x0 := X.out.c0
      have x1 := X.out.c1
      have HJS : Hid (J (upto cnt k) wr) := hJs
      have HNX : Hid (KeepsBox q W wr) := hnx
      clear hM hR hJs hnx
      have d0 : ∀ O : Obj, (wr.alloc O).drew.cell? ⟨q, 0, none⟩ = some (.slice (some ⟨b1, o1, none⟩) (r + 1) c) := fun O => (X.out.keep (bAlloc (Below.refl _ _) O)).c0
      have d1 : ∀ O : Obj, (wr.alloc O).drew.cell? ⟨q, 1, none⟩ = some (.slice b dl e) := fun O => (X.out.keep (bAlloc (Below.refl _ _) O)).c1
      gi_wp2
      gi_region
      generalize hW3 : (wr.alloc (.cells #[.slice tl r ct, .slice (ad k) N (cd k)] 26)).drew = W3
      have hJ3 : J (upto cnt k) W3 := by
        rw [← hW3]
        exact HJ.out _ _ _ none HJS.out ⟨rfl, rfl, rfl, by show wr.heap.size ≤ (wr.alloc _).heap.size; simp, fun j hj _ => Below.heap_alloc _ _ _ hj⟩ (fun r e => by cases e)
      have y0 : W3.cell? ⟨wr.heap.size, 0, none⟩ = some (.slice tl r ct) := by rw [← hW3]; exact cell_newA _ _ _ rfl
      have y1 : W3.cell? ⟨wr.heap.size, 1, none⟩ = some (.slice (ad k) N (cd k)) := by rw [← hW3]; exact cell_newA _ _ _ rfl
      have HK3 : Hid (KeepsBox q W W3) := keepsBox_t HNX.out (by rw [← hW3]; exact Below.heap_alloc _ _ _ X.out.lt)
      clear hW3 d0 d1
      obtain ⟨fn, tmps, assign, body, hy, hRd⟩ := hY (upto cnt k) ⟨k, HL.out⟩ W3 hJ3 (by rw [upto_length hk]; exact HL.out)
      dsimp only at hy
      clear hY
      gi_wp2
      refine hRd.mono ?_
      rintro e' W4 (⟨rfl, hJ4, hk4⟩ | ⟨rfl, hJx4⟩)
      · have HJ4 : Hid (J (upto cnt (k + 1)) W4) := by show J _ _; rw [upto_succ HL.out]; exact hJ4
        have HK4 : Hid (KeepsBox q W W4) := keepsBox_t HK3.out hk4
        clear hJ4 hk4
        gi_wp2
        go_roundw
        case rel => exact ⟨k + 1, by have := HL.out; omega, by go_num, HJ4.out, HK4.out⟩
        case measure => simp [intOf]; omega
      · gi_wp2
        refine bodyPost_ret (results_none rfl _ _ _) rfl ?_
        exact ⟨⟨_, rfl⟩, .inr ⟨_, trivial, hJx4⟩⟩
    · obtain rfl : k = cnt := by omega
      rw [upto_all] at hJs
      gi_wp2
      go_end0
      first
        | exact ⟨⟨_, rfl⟩, .inl ⟨_, rfl, hJs⟩⟩
        | exact ⟨⟨_, rfl⟩, .inl hJs⟩
/-- cutRows: the array is boxed; the function value captures the box. -/
theorem cutRows_in (n : Nat) (x y : Value) (w : World) (hx : x.oneCell' = true) (hy : y.oneCell' = true) :
    CallsIn Fence.wide n Tryz.prog 33 #[.agg #[x, y]] w fun e w' => e = .returned (.func (.func 74) #[] #[.pointer (some ⟨w.heap.size, 0, none⟩)]) ∧ w' = w.alloc (.cells #[x, y] 26) := by
  refine callsIn_of_wp Tryz.func33 rfl trivial ?_ rfl
  simp only [Tryz.ntmps33, List.size_toArray, List.length_cons, List.length_nil, Nat.reduceAdd, Nat.reduceSub, Array.replicate_succ, Array.replicate_zero, List.push_toArray, List.append_toArray, List.nil_append, List.cons_append]
  gi_wp2
  go_ret
  exact ⟨rfl, rfl⟩
/-- The value that cutRows hands back tells the rows in order. -/
theorem cut_stops (n q cnt N r b1 o1 c dl e ct : Nat) (tl b : Option Addr) (ad : Nat → Option Addr) (cd : Nat → Nat) (hn : 1 ≤ n) (hc : cnt ≤ 300) (hN : N ≤ 300) (hr : r ≤ 3)
    (hq : 0 < cnt → (dl : Int) / (cnt : Int) = N)
    (hs1 : ∀ W, (Instr.slice 24 (.slice (some ⟨b1, o1, none⟩) (r + 1) c) (some (.int .i64 1)) (some (.int .i64 ((r : Int) + 1))) (some (.int .i64 ((r : Int) + 1)))).run Tryz.prog W = .ok (.slice tl r ct) W)
    (hs2 : ∀ (k M R : Nat) W, k < cnt → k * N = M → (k + 1) * N = R → (Instr.slice 24 (.slice b dl e) (some (.int .i64 (M : Int))) (some (.int .i64 (R : Int))) (some (.int .i64 (R : Int)))).run Tryz.prog W = .ok (.slice (ad k) N (cd k)) W)
    (w : World) (hb1 : b1 < w.heap.size) (hB : Box w q (.slice (some ⟨b1, o1, none⟩) (r + 1) c) (.slice b dl e) 26) (h0 : w.cell? ⟨b1, o1, none⟩ = some (.int .i64 (cnt : Int))) :
    SeqStopsK Fence.wide n Tryz.prog 74 #[.pointer (some ⟨q, 0, none⟩)] (fun x : Fin cnt => #[.agg #[.slice tl r ct, .slice (ad x.1) N (cd x.1)]]) (KeepsBox q) (fun ys => ys = List.finRange cnt) (fun _ => True) cnt w := fun l J Jx W hW hJ _ hY hj =>
  cut_in n l q cnt N r b1 o1 c dl e ct tl b ad cd hn hc hN hr hq hs1 hs2 J Jx hY W hJ (hB.keep hW) ((hW.cell (p := ⟨b1, o1, none⟩) hb1).trans h0) hj
end Go.Proofs.YtcpgdhffemecbaaGreat
namespace Go.Proofs.YtcpgdhffemecbaaGreat
open Go.RowKit Go.Shelf
set_option linter.unusedVariables false
set_option linter.unusedSimpArgs false
attribute [local go_sem] Oper.semAt_some
/-- An append to a row of one's own, in a round: as 'step_append_lies' says it. -/
theorem stepIn_append {l n' : Nat} {P : Program} {w : World} {ops : Array Oper} {o : Oper} {a : Act} {K : Act → World → Prop} {Q : Exit → Act → World → Prop} {E : Prop} (hgd : o.guard = none) (s x : Operand) (t : TypeId)
    (ho : o.op = .call { callee := .builtin .append, args := #[s, x], argTypes := #[t, t] })
    (base : Nat) (e : TypeId) (i : TypeInfo) (z : Value) (size bytes : Nat) (ht : P.underlying t = some (.slice e)) (hi : P.info? e = some i) (hz : i.zero = some z)
    (hsize : i.size = size) (hby : i.bytes = bytes) (hzs : z.cells.size = size) (hsz : 0 < size)
    (v : Value) (n : Nat) (xs : List Value) (hs : a.eval s = v) (hown : w.ownsRow base e size v n xs)
    (ad : Addr) (m c : Nat) (news : List Value) (hx : a.eval x = .slice (some ad) m c) (hl : news.length = m * size) (hnews : ∀ j u, news[j]? = some u → w.cell? (ad.add j) = some u) (h1 : ∀ u ∈ news, u.oneCell' = true)
    (hm : 0 < m) (h63 : n + m ≤ maxLen) (hbytes : (n + m) * bytes ≤ 140737488355328) (hbase : base ≤ w.heap.size) (H : Nat) (hH : w.heap.size = H)
    (h : ∀ g cap w', w'.ownsRow base e size (.slice (some ⟨g, 0, none⟩) (n + m) cap) (n + m) (xs ++ news) → w.grownBy w' v.ownBlock → (v.ownBlock = some g ∨ g = H) → g < w'.heap.size → K (a.put o.dst (.slice (some ⟨g, 0, none⟩) (n + m) cap)) w') :
    if Region.wanted o (yielded ops a.tmps) = true then Oper.wpIn (Fence.wide.inRound l) n' P o a w K Q else E := by
  have hw : Region.wanted o (yielded ops a.tmps) = true := by simp [Region.wanted, hgd]
  rw [if_pos hw]
  obtain ⟨g, cap, w', hr, h2, h3, h4, h5⟩ := run_append_lies (P := P) w t o.type base e i z size bytes ht hi hz hsize hby hzs hsz v n xs hown ad m c news hl hnews h1 hm h63 hbytes hbase H hH
  refine ⟨fun _ _ => trivial, ?_⟩
  rw [show (Fence.wide.inRound l).round = some l from rfl, Oper.semAt_some l _ _ (fun c e => by rw [ho] at e; cases e)]
  unfold execOp
  simp only [ho, resolve, invoke, builtin, Sem.run_bind, Sem.run_pure, Result.andThen_ok, List.map_toArray, List.map_cons, List.map_nil, hs, hx, hr]
  exact h g cap w' h2 h3 h4 h5
theorem make_arrs (n : Nat) (hn : n ≤ 300) (w : World) :
    (Instr.makeSlice 32 (.int .i64 0) (.int .i64 (n : Int))).run Tryz.prog w = .ok (.slice (some ⟨w.heap.size, 0, none⟩) 0 n) (w.alloc (.cells (madeCells #[.slice none 0 0, .slice none 0 0] (n * 2)) 26)) := by
  have hi := info_arr
  cases hq : Tryz.prog.info? 26 with
  | none => rw [hq] at hi; cases hi
  | some i =>
    rw [hq] at hi
    simp at hi
    obtain ⟨z1, z2, z3⟩ := hi
    have := run_make (P := Tryz.prog) w 32 26 i _ Tryz.underlying32 hq z1 .i64 .i64 0 n (by omega) (by omega) (by rw [z3]; omega) (by omega)
    rw [z2, Int.toNat_natCast] at this
    exact this
/-- A block that holds no number holds no piece. -/
theorem Piece.notRow {B C g : Nat} {w : World} {u : Value} {m : List Int} (h : Piece B C w u m) (hg : ∀ cur t fr, w.heap[g]? = Option.some (.cells cur t fr) → ∀ (k : Nat) (z : Int), cur[k]? ≠ Option.some (Value.int .i64 z)) : NotAt g u := by
  obtain ⟨a, c, rfl, _, h⟩ := h
  intro off n c' e
  cases e
  rcases h with rfl | ⟨g', off, cur, t, e, _, _, hh, hc⟩
  · rfl
  · cases e
    apply Classical.byContradiction
    intro h0
    exact hg cur t _ hh off (m.getD 0 0) (hc 0 (Nat.pos_of_ne_zero h0))
theorem RI.grown {B : Nat} {w0 W W' : World} {v : Value} {k : Nat} {xs : List Value} {F : List (List Int)} {row : Option Nat} (h : RI B w0 W v k xs F) (hg : W.grownBy W' row) (hB : ∀ r, row = some r → B ≤ r) (ho : ∀ r, row = some r → v.ownBlock ≠ some r) (hp : ∀ r, row = some r → ∀ j, j < 2 * k → NotAt r (xs.getD j undef)) : RI B w0 W' v k xs F := by
  have hz := hg.size
  have hs := h.size
  refine ⟨h.own.kept hg ?_, fun j hj => ((h.piece j hj).grown hg (fun g e => hp g e j hj)).mono (Nat.le_refl _) hz, h.apart, h.far, ?_, by omega⟩
  · rcases h.own.2 with ⟨rfl, _⟩ | ⟨g, cap, cur, rfl, _⟩
    · exact .inl rfl
    · exact .inr (fun e => ho g (by rw [← e]; rfl) rfl)
  · refine ⟨hg.os.trans h.below.os, hg.tape.trans h.below.tape, hg.output.trans h.below.output, Nat.le_trans h.below.size hz, fun q hq => ?_⟩
    rw [hg.block q (by omega) (fun e => by have := hB q e.symm; omega)]
    exact h.below.block q hq
theorem RI.congr {B : Nat} {w0 W : World} {v : Value} {k : Nat} {xs : List Value} {F F' : List (List Int)} (h : RI B w0 W v k xs F) (he : ∀ j, j < 2 * k → F.getD j [] = F'.getD j []) : RI B w0 W v k xs F' :=
  ⟨h.own, fun j hj => by rw [← he j hj]; exact h.piece j hj, h.apart, h.far, h.below, h.size⟩
theorem keepsOthers_below {W W' : World} (h : Below W.heap.size W W') : KeepsOthers W W' := ⟨h.size, fun k o hk _ => by rw [h.block k (Array.getElem?_eq_some_iff.1 hk).1]; exact hk⟩
theorem flat_lenR {cnt : Nat} (f g : Fin cnt → List Int) (pre : List (Fin cnt)) : (pre.flatMap (fun k => [f k, g k])).length = 2 * pre.length := by
  induction pre with
  | nil => rfl
  | cons a l ih => simp [List.flatMap_cons] at ih ⊢; omega
/-- Behind the append, and behind the store of the longer list into its box. -/
theorem round_end {cnt B L q g cap g4 cap4 : Nat} {w0 W w3 w4 : World} {xs : List Value} {pre : List (Fin cnt)} {x : Fin cnt} {f h : Fin cnt → List Int} {u v : Value}
    (hri : RI B w0 W (.slice (some ⟨g, 0, none⟩) pre.length cap) pre.length xs (pre.flatMap (fun k => [f k, h k]))) (hbx : Boxed W L 32 (.slice (some ⟨g, 0, none⟩) pre.length cap))
    (hq : q < W.heap.size) (hgq : g ≠ q) (hLq : L ≠ q) (hBL : B ≤ L) (hb : Below W.heap.size W w3) (ha : Arr W.heap.size w3.heap.size w3 (.agg #[u, v]) (f x) (h x))
    (hown : w4.ownsRow B 26 2 (.slice (some ⟨g4, 0, none⟩) (pre.length + 1) cap4) (pre.length + 1) (xs ++ [u, v]))
    (hgrow : (w3.alloc (.cells #[u, v] 26)).grownBy w4 (Value.slice (some ⟨g, 0, none⟩) pre.length cap).ownBlock)
    (hat : (Value.slice (some ⟨g, 0, none⟩) pre.length cap).ownBlock = some g4 ∨ g4 = w3.heap.size + 1) :
    Boxed w4 L 32 (.slice (some ⟨g, 0, none⟩) pre.length cap) ∧ g4 ≠ q ∧
      RI B w0 (w4.setCell ⟨L, 0, none⟩ (.slice (some ⟨g4, 0, none⟩) (pre.length + 1) cap4)) (.slice (some ⟨g4, 0, none⟩) (pre.length + 1) cap4) (pre.length + 1) (xs ++ [u, v]) ((pre ++ [x]).flatMap (fun k => [f k, h k])) ∧
      Boxed (w4.setCell ⟨L, 0, none⟩ (.slice (some ⟨g4, 0, none⟩) (pre.length + 1) cap4)) L 32 (.slice (some ⟨g4, 0, none⟩) (pre.length + 1) cap4) ∧
      KeepsOthers W (w4.setCell ⟨L, 0, none⟩ (.slice (some ⟨g4, 0, none⟩) (pre.length + 1) cap4)) ∧ KeepsBox q W (w4.setCell ⟨L, 0, none⟩ (.slice (some ⟨g4, 0, none⟩) (pre.length + 1) cap4)) := by
  have eo : (Value.slice (some ⟨g, 0, none⟩) pre.length cap).ownBlock = some g := rfl
  rw [eo] at hgrow hat
  have hl := flat_lenR f h pre
  have hb' : Below W.heap.size W (w3.alloc (.cells #[u, v] 26)) := bAlloc hb _
  have eF : (pre ++ [x]).flatMap (fun k => [f k, h k]) = pre.flatMap (fun k => [f k, h k]) ++ [f x, h x] := by simp [List.flatMap_append]
  have hne : some L ≠ some g := hbx.not_row (by decide) hri.own
  have hne4 : L ≠ g4 := by
    rcases hat with e | e
    · cases e; intro e; exact hne (by rw [e])
    · have := hbx.lt; have := hb.size; omega
  have hbx4 : Boxed w4 L 32 (.slice (some ⟨g, 0, none⟩) pre.length cap) := by
    have : (w3.alloc (.cells #[u, v] 26)).heap[L]? = some (.cells #[.slice (some ⟨g, 0, none⟩) pre.length cap] 32 (0, 0)) := by rw [hb'.block L hbx.lt]; exact hbx
    unfold Boxed
    rw [hgrow.block L (lt_of_heapA this) hne]
    exact this
  obtain ⟨x', y', e', px, py, hap⟩ := ha
  obtain ⟨rfl, rfl⟩ : u = x' ∧ v = y' := by cases e'; exact ⟨rfl, rfl⟩
  have hsz : w3.heap.size ≤ (w3.alloc (.cells #[u, v] 26)).heap.size := by simp
  have R4 : RI B w0 w4 (.slice (some ⟨g4, 0, none⟩) (pre.length + 1) cap4) (pre.length + 1) (xs ++ [u, v]) ((pre ++ [x]).flatMap (fun k => [f k, h k])) := by
    refine (hri.congr (F' := (pre ++ [x]).flatMap (fun k => [f k, h k])) (fun j hj => ?_)).step hb' (x := u) (y := v) ?_ ?_ hap hown (by rw [eo]; exact hgrow) (by rw [eo]; rcases hat with e | e; exact .inl e; exact .inr (by simpa using e))
    · rw [eF, getD_app, if_pos (by omega)]
    · rw [eF, getD_app, if_neg (by omega), hl, Nat.sub_self]
      exact (px.keep (bAlloc (Below.refl _ _) _)).mono (Nat.le_refl _) hsz
    · rw [eF, getD_app, if_neg (by omega), hl, show 2 * pre.length + 1 - 2 * pre.length = 1 by omega]
      exact (py.keep (bAlloc (Below.refl _ _) _)).mono (Nat.le_refl _) hsz
  have hqq : w4.heap[q]? = W.heap[q]? := by
    rw [hgrow.block q (by have := hb'.size; omega) (fun e => hgq (by cases e; rfl)), hb'.block q hq]
  refine ⟨hbx4, ?_, R4.grown (grownBy_setCell' w4 L _) (fun r e => by cases e; exact hBL) (fun r e e2 => ?_) (fun r e j hj => ?_), hbx4.set _, ?_, ?_⟩
  · rcases hat with e | e
    · cases e; exact hgq
    · have := hb.size; omega
  · cases e; cases e2; exact hne4 rfl
  · cases e
    refine (R4.piece j hj).notRow (fun cur t fr hh k z hk => ?_)
    rw [show w4.heap[L]? = _ from hbx4] at hh
    cases hh
    cases k <;> simp at hk
  · refine ((keepsOthers_below hb').trans (KeepsOthers.of_grownBy hgrow ?_)).trans (KeepsOthers.setCell _ _ _)
    intro j o e hj
    cases e
    rcases hri.own.2 with ⟨h0, _⟩ | ⟨g', cap', cur, h0, _, hh, _⟩
    · cases h0
    · cases h0
      rw [hb'.block g (lt_of_heapA hh), hh] at hj
      cases hj
      rfl
  · exact (Below.heap_setCell _ _ _ _ (by show q ≠ L; omega)).trans hqq
set_option maxRecDepth 100000 in
set_option maxHeartbeats 4000000 in
theorem rows_walk (n0 cnt N r b1 o1 c e ct : Nat) (t d : List Int) (tl b : Option Addr) (ad : Nat → Option Addr) (cd : Nat → Nat) (D : Nat → List Int) (w : World) (hc : cnt ≤ 300) (hN : N ≤ 300) (hr : r ≤ 3) (htl : t.length = r)
    (hq : 0 < cnt → (d.length : Int) / (cnt : Int) = N) (ho : arrOk ((cnt : Int) :: t) d = true) (hd : d.length ≤ 300)
    (hs1 : ∀ W, (Instr.slice 24 (.slice (some ⟨b1, o1, none⟩) (r + 1) c) (some (.int .i64 1)) (some (.int .i64 ((r : Int) + 1))) (some (.int .i64 ((r : Int) + 1)))).run Tryz.prog W = .ok (.slice tl r ct) W)
    (hs2 : ∀ (k M R : Nat) W, k < cnt → k * N = M → (k + 1) * N = R → (Instr.slice 24 (.slice b d.length e) (some (.int .i64 (M : Int))) (some (.int .i64 (R : Int))) (some (.int .i64 (R : Int)))).run Tryz.prog W = .ok (.slice (ad k) N (cd k)) W)
    (hA : ArrI w (.agg #[.slice (some ⟨b1, o1, none⟩) (r + 1) c, .slice b d.length e]) ((cnt : Int) :: t) d) (hb1 : b1 < w.heap.size) (h0 : w.cell? ⟨b1, o1, none⟩ = some (.int .i64 (cnt : Int)))
    (hrow : ∀ k, k < cnt → ArrI w (.agg #[.slice tl r ct, .slice (ad k) N (cd k)]) t (D k)) (hDl : ∀ k, k < cnt → (D k).length ≤ 1048576) :
    Calls Tryz.prog 10 #[.agg #[.slice (some ⟨b1, o1, none⟩) (r + 1) c, .slice b d.length e]] w fun e w' => ∃ v', e = .returned v' ∧ Arrs w.heap.size w'.heap.size w' v' ((List.finRange cnt).flatMap (fun k => [t, D k.1])) ∧ Below w.heap.size w w' := by
  have HA : Hid (ArrI w (.agg #[.slice (some ⟨b1, o1, none⟩) (r + 1) c, .slice b d.length e]) ((cnt : Int) :: t) d) := hA
  have HO : Hid (arrOk ((cnt : Int) :: t) d = true) := ho
  have HR : Hid (∀ k, k < cnt → ArrI w (.agg #[.slice tl r ct, .slice (ad k) N (cd k)]) t (D k)) := hrow
  have hmk := make_arrs cnt hc
  obtain ⟨i0, hq0, z1, z2, z3⟩ : ∃ i0, Tryz.prog.info? 26 = some i0 ∧ i0.zero = some (.agg #[.slice none 0 0, .slice none 0 0]) ∧ i0.size = 2 ∧ i0.bytes = 48 := by
    have hi := info_arr
    cases hq : Tryz.prog.info? 26 with
    | none => rw [hq] at hi; cases hi
    | some i => rw [hq] at hi; simp at hi; exact ⟨i, rfl, hi.1, hi.2.1, hi.2.2⟩
  have hne : ((r : Int) + 1 == 0) = false := by simp; omega
  clear hA ho hrow
  refine (callsIn_wide (n := 6)).1 ?_
  refine callsIn_of_wp_marks Tryz.func10 rfl trivial ?_ rfl
  simp only [Tryz.ntmps10, List.size_toArray, List.length_cons, List.length_nil, Nat.reduceAdd, Nat.reduceSub, Array.replicate_succ, Array.replicate_zero, List.push_toArray, List.append_toArray, List.nil_append, List.cons_append]
  gi_wp2_with fail
  refine ⟨trivial, (callsIn_wide.2 (arrOk_impl (HA.out.keep (bAlloc (Below.refl _ _) _)) (by omega))).mono ?_⟩
  rintro rr w1 ⟨rfl, hb⟩
  have HB1 : Hid (Below w.heap.size w w1) := bTrans (bAlloc (Below.refl _ _) _) hb
  have X1 : Hid (Box w1 w.heap.size (.slice (some ⟨b1, o1, none⟩) (r + 1) c) (.slice b d.length e) 26) := (box_new w _ _ _).keep hb
  have x0 := X1.out.c0
  have x1 := X1.out.c1
  have z0 : w1.cell? ⟨b1, o1, none⟩ = some (.int .i64 (cnt : Int)) := by rw [HB1.out.cell (p := ⟨b1, o1, none⟩) hb1]; exact h0
  have e0 : ∀ O O' : Obj, ((w1.alloc O).alloc O').cell? ⟨w.heap.size, 0, none⟩ = some (.slice (some ⟨b1, o1, none⟩) (r + 1) c) := fun O O' => (X1.out.keep (bAlloc (bAlloc (Below.refl _ _) O) O')).c0
  have e1 : ∀ O O' : Obj, ((w1.alloc O).alloc O').cell? ⟨w.heap.size, 1, none⟩ = some (.slice b d.length e) := fun O O' => (X1.out.keep (bAlloc (bAlloc (Below.refl _ _) O) O')).c1
  clear hb
  rw [HO.out]
  gi_wp2_with fail
  refine ⟨trivial, (cutRows_in _ _ _ _ rfl rfl).mono ?_⟩
  rintro rr w2 ⟨rfl, hw⟩
  generalize hM : madeCells #[Value.slice none 0 0, Value.slice none 0 0] (cnt * 2) = Z at hw ⊢
  have bL : Boxed w2 (w1.heap.size + 1) 32 (.slice (some ⟨w1.heap.size, 0, none⟩) 0 cnt) := by rw [hw]; have := (Boxed.new (w1.alloc (.cells Z 26)) 32 (.slice (some ⟨w1.heap.size, 0, none⟩) 0 cnt)).alloc (.cells #[.slice (some ⟨b1, o1, none⟩) (r + 1) c, .slice b d.length e] 26); simpa using this
  have Q2 : Hid (Box w2 (w1.heap.size + 2) (.slice (some ⟨b1, o1, none⟩) (r + 1) c) (.slice b d.length e) 26) := by rw [hw]; show Box _ _ _ _ _; have := box_new ((w1.alloc (.cells Z 26)).alloc (.cells #[.slice (some ⟨w1.heap.size, 0, none⟩) 0 cnt] 32)) (.slice (some ⟨b1, o1, none⟩) (r + 1) c) (.slice b d.length e) 26; simpa using this
  have HB2 : Hid (Below w1.heap.size w1 w2) := by rw [hw]; exact bAlloc (bAlloc (bAlloc (Below.refl _ _) _) _) _
  have hsz : w2.heap.size = w1.heap.size + 3 := by rw [hw]; simp
  have RI0 : Hid (RI w1.heap.size w2 w2 (.slice (some ⟨w1.heap.size, 0, none⟩) 0 cnt) 0 [] []) := by
    have hh : w2.heap[w1.heap.size]? = some (.cells Z 26 (0, 0)) := by rw [hw, (bAlloc (bAlloc (Below.refl _ (w1.alloc (.cells Z 26))) _) _).block w1.heap.size (by simp)]; exact heap_alloc_new w1 _
    exact ⟨⟨rfl, .inr ⟨_, cnt, Z, rfl, Nat.le_refl _, hh, Nat.zero_le _, by unfold maxLen; omega, by rw [← hM]; simp [size_madeCells], by simp⟩⟩, fun j hj => by omega, fun i j _ hj => by omega, fun j hj => by omega, Below.refl _ _, by omega⟩
  have HBW : Hid (Below w.heap.size w w2) := bTrans HB1.out HB2.out
  have hz2 : w2.cell? ⟨b1, o1, none⟩ = some (.int .i64 (cnt : Int)) := by rw [HBW.out.cell (p := ⟨b1, o1, none⟩) hb1]; exact h0
  have hb2 : b1 < w2.heap.size := by have := HBW.out.size; omega
  clear hw hM e0 e1 x0 x1 hmk
  gi_wp2_with fail
  refine wpIn_rangeFunc_ownH rfl (by decide) (gf := 74) (lb := #[.pointer (some ⟨w1.heap.size + 1 + 1, 0, none⟩)]) rfl trivial (enters_of Tryz.func74 (by kernel_rfl) rfl)
    (cut_stops 5 (w1.heap.size + 2) cnt N r b1 o1 c d.length e ct tl b ad cd (by decide) hc hN hr hq hs1 hs2 w2 hb2 Q2.out hz2) keepsBox_t (keepsBox_b (by omega)) (Below.refl _ _) (fun _ => rfl)
    (fun pre W => ∃ g cap xs, Boxed W (w1.heap.size + 1) 32 (.slice (some ⟨g, 0, none⟩) pre.length cap) ∧ g ≠ w1.heap.size + 2 ∧ RI w1.heap.size w2 W (.slice (some ⟨g, 0, none⟩) pre.length cap) pre.length xs (pre.flatMap (fun k => [t, D k.1])))
    (fun _ _ _ => False)
    ?hI (fun _ _ _ _ _ hs _ _ => hs)
    ⟨_, _, _, bL, by omega, RI0.out⟩
    (fun x a' W => ∃ Bx, w1.heap.size + 2 < Bx ∧ Box W Bx (.slice tl r ct) (.slice (ad x.1) N (cd x.1)) 26 ∧ a' = { tmps := #[.agg #[.slice (some ⟨b1, o1, none⟩) (r + 1) c, .slice b d.length e], .pointer (some ⟨w.heap.size, 0, none⟩), .slice none 0 0, .pointer (some ⟨w1.heap.size + 1, 0, none⟩), .pointer (some ⟨Bx, 0, none⟩), .agg #[.slice (some ⟨b1, o1, none⟩) (r + 1) c, .slice b d.length e], .bool true, .bool false, .bool false, .pointer (some ⟨w.heap.size, 0, none⟩), .slice (some ⟨b1, o1, none⟩) (r + 1) c, .int .i64 ((r : Int) + 1), .bool false, .bool false, .pointer (some ⟨w.heap.size, 0, none⟩), .slice (some ⟨b1, o1, none⟩) (r + 1) c, .pointer (some ⟨b1, o1, none⟩), .int .i64 (cnt : Int), .slice (some ⟨w1.heap.size, 0, none⟩) 0 cnt, .agg #[.slice (some ⟨b1, o1, none⟩) (r + 1) c, .slice b d.length e], .func (.func 74) #[] #[.pointer (some ⟨w1.heap.size + 1 + 1, 0, none⟩)], .agg #[.slice tl r ct, .slice (ad x.1) N (cd x.1)], undef, undef, undef, undef, undef, undef], defers := [] })
    ?hAx ?assign ?body ?done ?stop
  case hI =>
    rintro pre X Y row ⟨g, cap, xs, hbx, hgq, hri⟩ hg hrow
    refine ⟨g, cap, xs, hbx.kept hg (fun e' => ?_), hgq, hri.grown hg (fun r' e' => ?_) (fun r' e' e2 => ?_) (fun r' e' j hj => ?_)⟩
    · obtain ⟨_, o, ho, hcc⟩ := hrow _ e'.symm; rw [show X.heap[_]? = _ from hbx] at ho; cases ho; cases hcc
    · have := (hrow r' e').1; omega
    · obtain ⟨_, o, ho, hcc⟩ := hrow r' e'
      rcases hri.own.2 with ⟨h, _⟩ | ⟨g', cap', cur, h, _, hh, _⟩
      · cases h
      · cases h; cases e2; rw [hh] at ho; cases ho; cases hcc
    · obtain ⟨_, o, ho, hcc⟩ := hrow r' e'
      exact (hri.piece j hj).notRow (fun cur t' fr hh => by rw [hh] at ho; cases ho; cases hcc)
  case hAx =>
    rintro x a' _ X Y row ⟨Bx, h1, h2, h3⟩ hg hr'
    refine ⟨Bx, h1, ?_, h3⟩
    unfold Box at h2 ⊢
    rw [hg.block Bx (lt_of_heapA h2) (fun e' => ?_)]
    · exact h2
    · obtain ⟨_, o, ho, hcc⟩ := hr' Bx e'.symm; rw [h2] at ho; cases ho; cases hcc
  case assign =>
    rintro l pre x W K ⟨g, cap, xs, hbx, hgq, hri⟩ hK
    gi_wp2
    exact hK _ _ ((KeepsOthers.alloc _ _).from _) (Below.heap_alloc _ _ _ (by have := hbx.lt; have := hri.below.size; omega)) ⟨g, cap, xs, hbx.alloc _, hgq, hri.grown (World.grownBy_alloc W _ none) (fun _ e' => by cases e') (fun _ e' => by cases e') (fun _ e' => by cases e')⟩ ⟨W.heap.size, by have := hri.below.size; omega, box_new W _ _ _, rfl⟩
  case body =>
    rintro l pre x a' W hl _ ⟨g, cap, xs, hbx, hgq, hri⟩ ⟨Bx, hBx, hX, rfl⟩ hlt
    have c0 := hbx.cell
    have y0 := hX.c0
    have y1 := hX.c1
    have HRI : Hid (RI w1.heap.size w2 W (.slice (some ⟨g, 0, none⟩) pre.length cap) pre.length xs (pre.flatMap (fun k => [t, D k.1]))) := hri
    have HBD : Hid (Below w.heap.size w W.drew) := ((bTrans HB1.out (HB2.out.trans hri.below))).drew
    have HRX : Hid (ArrI w (.agg #[.slice tl r ct, .slice (ad x.1) N (cd x.1)]) t (D x.1)) := HR.out x.1 x.2
    have HDL : Hid ((D x.1).length ≤ 1048576) := hDl x.1 x.2
    have HTL : Hid (t.length ≤ 1048576) := by show _ ≤ _; omega
    have H63 : Hid (pre.length + 1 ≤ maxLen) := by show _ ≤ _; unfold maxLen; omega
    have HBYT : Hid ((pre.length + 1) * 48 ≤ 140737488355328) := by show _ ≤ _; omega
    have HQL : Hid (w1.heap.size + 2 < W.heap.size) := by have := hri.below.size; show _ < _; omega
    clear hri
    gi_wp2_with fail
    refine wpIn_region_any (by kernel_rfl) ?_
    change wpAnyIn _ _ _ _ _ _ _ _ _ (World.drew _)
    refine wpAnyIn_ready (rs := [0, 1]) (by kernel_rfl) (by simp) ?_
    refine AllReadyIn.cons rfl (fun K hK => ?_) (AllReadyIn.cons rfl (fun K hK => ?_) AllReadyIn.nil)
    · -- 0
      go_simp
      refine hK _ _ ?_
      clear hK K
      refine wpAnyIn_ready (rs := [1]) (by kernel_rfl) (by simp) ?_
      refine AllReadyIn.cons rfl (fun K hK => ?_) AllReadyIn.nil
      go_simp
      refine hK _ _ ?_
      clear hK K
      refine wpAnyIn_ready (rs := [2]) (by kernel_rfl) (by simp) ?_
      refine AllReadyIn.cons rfl (fun K hK => ?_) AllReadyIn.nil
      go_simp
      refine ⟨trivial, (CallsIn.inRound l (callsIn_wide.2 (copyOf_impl (HRX.out.keep HBD.out) HTL.out HDL.out))).mono ?_⟩
      rintro rr w3 ⟨v3, rfl, ha, hb⟩
      obtain ⟨ax, cx, ay, cy, rfl, _, _, _, _⟩ := ha.arrI
      have HA3 : Hid (Arr W.heap.size w3.heap.size w3 (.agg #[.slice ax r cx, .slice ay (D x.1).length cy]) t (D x.1)) := by rw [htl] at ha; exact ha
      have HB3 : Hid (Below W.heap.size W w3) := bTrans ((Below.refl W.heap.size W).drew) hb
      have c3 : w3.cell? ⟨w1.heap.size + 1, 0, none⟩ = some (.slice (some ⟨g, 0, none⟩) pre.length cap) := (HB3.out.cell (p := ⟨w1.heap.size + 1, 0, none⟩) hbx.lt).trans c0
      have c3n : ∀ O : Obj, (w3.alloc O).cell? ⟨w1.heap.size + 1, 0, none⟩ = some (.slice (some ⟨g, 0, none⟩) pre.length cap) := fun O => ((bAlloc HB3.out O).cell (p := ⟨w1.heap.size + 1, 0, none⟩) hbx.lt).trans c0
      clear ha hb
      refine hK _ _ ?_
      clear hK K
      refine wpAnyIn_ready (rs := [3]) (by kernel_rfl) (by simp) ?_
      refine AllReadyIn.cons rfl (fun K hK => ?_) AllReadyIn.nil
      go_simp
      refine hK _ _ ?_
      clear hK K
      refine wpAnyIn_ready (rs := [4]) (by kernel_rfl) (by simp) ?_
      refine AllReadyIn.cons rfl (fun K hK => ?_) AllReadyIn.nil
      refine stepIn_append rfl (.tmp 22) (.tmp 25) 32 rfl w1.heap.size 26 i0 (.agg #[.slice none 0 0, .slice none 0 0]) 2 48 Tryz.underlying32 hq0 z1 z2 z3 rfl (by decide) (.slice (some ⟨g, 0, none⟩) pre.length cap) pre.length xs rfl (ownsRow_keep HRI.out.own (bAlloc HB3.out _)) ⟨w3.heap.size, 0, none⟩ 1 1 [.slice ax r cx, .slice ay (D x.1).length cy] rfl rfl (World.news_of_block (cs := #[.slice ax r cx, .slice ay (D x.1).length cy]) (heap_alloc_new w3 _)) (by simp [Value.oneCell']) (by decide) H63.out HBYT.out (Nat.le_trans HRI.out.size (bAlloc HB3.out _).size) (w3.heap.size + 1) (by simp) ?_
      intro g4 cap4 w4 hown hgrow hat hlt4
      obtain ⟨hbx4, hg4, R5, hbx5, hk5, hq5⟩ := round_end (q := w1.heap.size + 2) HRI.out hbx HQL.out hgq (by omega) (by omega) HB3.out HA3.out hown hgrow hat
      have c4 := hbx4.cell
      have f4 := hbx4.frozen
      refine hK _ _ ?_
      clear hK K
      refine wpAnyIn_ready (rs := [5]) (by kernel_rfl) (by simp) ?_
      refine AllReadyIn.cons rfl (fun K hK => ?_) AllReadyIn.nil
      go_simp
      refine hK _ _ ?_
      clear hK K
      refine wpAnyIn_done (by kernel_rfl) ?_ _
      gi_wp2
      exact ⟨hk5.from _, hq5, g4, cap4, _, by simpa using hbx5, hg4, by simpa using R5⟩
    · -- 1
      go_simp
      refine hK _ _ ?_
      clear hK K
      refine wpAnyIn_ready (rs := [0, 2]) (by kernel_rfl) (by simp) ?_
      refine AllReadyIn.cons rfl (fun K hK => ?_) (AllReadyIn.cons rfl (fun K hK => ?_) AllReadyIn.nil)
      · -- 0
        go_simp
        refine hK _ _ ?_
        clear hK K
        refine wpAnyIn_ready (rs := [2]) (by kernel_rfl) (by simp) ?_
        refine AllReadyIn.cons rfl (fun K hK => ?_) AllReadyIn.nil
        go_simp
        refine ⟨trivial, (CallsIn.inRound l (callsIn_wide.2 (copyOf_impl (HRX.out.keep HBD.out) HTL.out HDL.out))).mono ?_⟩
        rintro rr w3 ⟨v3, rfl, ha, hb⟩
        obtain ⟨ax, cx, ay, cy, rfl, _, _, _, _⟩ := ha.arrI
        have HA3 : Hid (Arr W.heap.size w3.heap.size w3 (.agg #[.slice ax r cx, .slice ay (D x.1).length cy]) t (D x.1)) := by rw [htl] at ha; exact ha
        have HB3 : Hid (Below W.heap.size W w3) := bTrans ((Below.refl W.heap.size W).drew) hb
        have c3 : w3.cell? ⟨w1.heap.size + 1, 0, none⟩ = some (.slice (some ⟨g, 0, none⟩) pre.length cap) := (HB3.out.cell (p := ⟨w1.heap.size + 1, 0, none⟩) hbx.lt).trans c0
        have c3n : ∀ O : Obj, (w3.alloc O).cell? ⟨w1.heap.size + 1, 0, none⟩ = some (.slice (some ⟨g, 0, none⟩) pre.length cap) := fun O => ((bAlloc HB3.out O).cell (p := ⟨w1.heap.size + 1, 0, none⟩) hbx.lt).trans c0
        clear ha hb
        refine hK _ _ ?_
        clear hK K
        refine wpAnyIn_ready (rs := [3]) (by kernel_rfl) (by simp) ?_
        refine AllReadyIn.cons rfl (fun K hK => ?_) AllReadyIn.nil
        go_simp
        refine hK _ _ ?_
        clear hK K
        refine wpAnyIn_ready (rs := [4]) (by kernel_rfl) (by simp) ?_
        refine AllReadyIn.cons rfl (fun K hK => ?_) AllReadyIn.nil
        refine stepIn_append rfl (.tmp 22) (.tmp 25) 32 rfl w1.heap.size 26 i0 (.agg #[.slice none 0 0, .slice none 0 0]) 2 48 Tryz.underlying32 hq0 z1 z2 z3 rfl (by decide) (.slice (some ⟨g, 0, none⟩) pre.length cap) pre.length xs rfl (ownsRow_keep HRI.out.own (bAlloc HB3.out _)) ⟨w3.heap.size, 0, none⟩ 1 1 [.slice ax r cx, .slice ay (D x.1).length cy] rfl rfl (World.news_of_block (cs := #[.slice ax r cx, .slice ay (D x.1).length cy]) (heap_alloc_new w3 _)) (by simp [Value.oneCell']) (by decide) H63.out HBYT.out (Nat.le_trans HRI.out.size (bAlloc HB3.out _).size) (w3.heap.size + 1) (by simp) ?_
        intro g4 cap4 w4 hown hgrow hat hlt4
        obtain ⟨hbx4, hg4, R5, hbx5, hk5, hq5⟩ := round_end (q := w1.heap.size + 2) HRI.out hbx HQL.out hgq (by omega) (by omega) HB3.out HA3.out hown hgrow hat
        have c4 := hbx4.cell
        have f4 := hbx4.frozen
        refine hK _ _ ?_
        clear hK K
        refine wpAnyIn_ready (rs := [5]) (by kernel_rfl) (by simp) ?_
        refine AllReadyIn.cons rfl (fun K hK => ?_) AllReadyIn.nil
        go_simp
        refine hK _ _ ?_
        clear hK K
        refine wpAnyIn_done (by kernel_rfl) ?_ _
        gi_wp2
        exact ⟨hk5.from _, hq5, g4, cap4, _, by simpa using hbx5, hg4, by simpa using R5⟩
      · -- 2
        go_simp
        refine ⟨trivial, (CallsIn.inRound l (callsIn_wide.2 (copyOf_impl (HRX.out.keep HBD.out) HTL.out HDL.out))).mono ?_⟩
        rintro rr w3 ⟨v3, rfl, ha, hb⟩
        obtain ⟨ax, cx, ay, cy, rfl, _, _, _, _⟩ := ha.arrI
        have HA3 : Hid (Arr W.heap.size w3.heap.size w3 (.agg #[.slice ax r cx, .slice ay (D x.1).length cy]) t (D x.1)) := by rw [htl] at ha; exact ha
        have HB3 : Hid (Below W.heap.size W w3) := bTrans ((Below.refl W.heap.size W).drew) hb
        have c3 : w3.cell? ⟨w1.heap.size + 1, 0, none⟩ = some (.slice (some ⟨g, 0, none⟩) pre.length cap) := (HB3.out.cell (p := ⟨w1.heap.size + 1, 0, none⟩) hbx.lt).trans c0
        have c3n : ∀ O : Obj, (w3.alloc O).cell? ⟨w1.heap.size + 1, 0, none⟩ = some (.slice (some ⟨g, 0, none⟩) pre.length cap) := fun O => ((bAlloc HB3.out O).cell (p := ⟨w1.heap.size + 1, 0, none⟩) hbx.lt).trans c0
        clear ha hb
        refine hK _ _ ?_
        clear hK K
        refine wpAnyIn_ready (rs := [0, 3]) (by kernel_rfl) (by simp) ?_
        refine AllReadyIn.cons rfl (fun K hK => ?_) (AllReadyIn.cons rfl (fun K hK => ?_) AllReadyIn.nil)
        · -- 0
          go_simp
          refine hK _ _ ?_
          clear hK K
          refine wpAnyIn_ready (rs := [3]) (by kernel_rfl) (by simp) ?_
          refine AllReadyIn.cons rfl (fun K hK => ?_) AllReadyIn.nil
          go_simp
          refine hK _ _ ?_
          clear hK K
          refine wpAnyIn_ready (rs := [4]) (by kernel_rfl) (by simp) ?_
          refine AllReadyIn.cons rfl (fun K hK => ?_) AllReadyIn.nil
          refine stepIn_append rfl (.tmp 22) (.tmp 25) 32 rfl w1.heap.size 26 i0 (.agg #[.slice none 0 0, .slice none 0 0]) 2 48 Tryz.underlying32 hq0 z1 z2 z3 rfl (by decide) (.slice (some ⟨g, 0, none⟩) pre.length cap) pre.length xs rfl (ownsRow_keep HRI.out.own (bAlloc HB3.out _)) ⟨w3.heap.size, 0, none⟩ 1 1 [.slice ax r cx, .slice ay (D x.1).length cy] rfl rfl (World.news_of_block (cs := #[.slice ax r cx, .slice ay (D x.1).length cy]) (heap_alloc_new w3 _)) (by simp [Value.oneCell']) (by decide) H63.out HBYT.out (Nat.le_trans HRI.out.size (bAlloc HB3.out _).size) (w3.heap.size + 1) (by simp) ?_
          intro g4 cap4 w4 hown hgrow hat hlt4
          obtain ⟨hbx4, hg4, R5, hbx5, hk5, hq5⟩ := round_end (q := w1.heap.size + 2) HRI.out hbx HQL.out hgq (by omega) (by omega) HB3.out HA3.out hown hgrow hat
          have c4 := hbx4.cell
          have f4 := hbx4.frozen
          refine hK _ _ ?_
          clear hK K
          refine wpAnyIn_ready (rs := [5]) (by kernel_rfl) (by simp) ?_
          refine AllReadyIn.cons rfl (fun K hK => ?_) AllReadyIn.nil
          go_simp
          refine hK _ _ ?_
          clear hK K
          refine wpAnyIn_done (by kernel_rfl) ?_ _
          gi_wp2
          exact ⟨hk5.from _, hq5, g4, cap4, _, by simpa using hbx5, hg4, by simpa using R5⟩
        · -- 3
          go_simp
          refine hK _ _ ?_
          clear hK K
          refine wpAnyIn_ready (rs := [0]) (by kernel_rfl) (by simp) ?_
          refine AllReadyIn.cons rfl (fun K hK => ?_) AllReadyIn.nil
          go_simp
          refine hK _ _ ?_
          clear hK K
          refine wpAnyIn_ready (rs := [4]) (by kernel_rfl) (by simp) ?_
          refine AllReadyIn.cons rfl (fun K hK => ?_) AllReadyIn.nil
          refine stepIn_append rfl (.tmp 22) (.tmp 25) 32 rfl w1.heap.size 26 i0 (.agg #[.slice none 0 0, .slice none 0 0]) 2 48 Tryz.underlying32 hq0 z1 z2 z3 rfl (by decide) (.slice (some ⟨g, 0, none⟩) pre.length cap) pre.length xs rfl (ownsRow_keep HRI.out.own (bAlloc HB3.out _)) ⟨w3.heap.size, 0, none⟩ 1 1 [.slice ax r cx, .slice ay (D x.1).length cy] rfl rfl (World.news_of_block (cs := #[.slice ax r cx, .slice ay (D x.1).length cy]) (heap_alloc_new w3 _)) (by simp [Value.oneCell']) (by decide) H63.out HBYT.out (Nat.le_trans HRI.out.size (bAlloc HB3.out _).size) (w3.heap.size + 1) (by simp) ?_
          intro g4 cap4 w4 hown hgrow hat hlt4
          obtain ⟨hbx4, hg4, R5, hbx5, hk5, hq5⟩ := round_end (q := w1.heap.size + 2) HRI.out hbx HQL.out hgq (by omega) (by omega) HB3.out HA3.out hown hgrow hat
          have c4 := hbx4.cell
          have f4 := hbx4.frozen
          refine hK _ _ ?_
          clear hK K
          refine wpAnyIn_ready (rs := [5]) (by kernel_rfl) (by simp) ?_
          refine AllReadyIn.cons rfl (fun K hK => ?_) AllReadyIn.nil
          go_simp
          refine hK _ _ ?_
          clear hK K
          refine wpAnyIn_done (by kernel_rfl) ?_ _
          gi_wp2
          exact ⟨hk5.from _, hq5, g4, cap4, _, by simpa using hbx5, hg4, by simpa using R5⟩
  case done =>
    rintro D' zs W hD rfl ⟨g, cap, xs, hbx, hgq, hri⟩ hK
    have c0 := hbx.cell
    have R9 := hri.grown (grownBy_putObj' W D' (.deferred none)) (fun r' e' => by cases e'; omega) (fun r' e' e2 => by
      cases e'
      rcases hri.own.2 with ⟨h, _⟩ | ⟨g', cap', cur, h, _, hh, _⟩
      · cases h
      · cases h; cases e2; rw [hh] at hK; cases hK) (fun r' e' j hj => by
      cases e'
      exact (hri.piece j hj).notRow (fun cur t' fr hh => by rw [hh] at hK; cases hK))
    have HA9 := (R9.done (by rw [flat_lenR])).mono (B' := w.heap.size) HB1.out.size (Nat.le_refl _)
    have HB9 : Below w.heap.size w (W.putObj D' (.deferred none)) := bTrans HB1.out (HB2.out.trans R9.below)
    clear R9 hri
    gi_wp2
    refine ⟨by simp, .inl ⟨_, _, rfl, run_takeDeferred hK, ?_⟩⟩
    exact ⟨_, results_tmp rfl _ _ _, _, rfl, by simpa using HA9, HB9⟩
  case stop =>
    rintro D' c' pre W _ _ h _
    exact h.elim
end Go.Proofs.YtcpgdhffemecbaaGreat
namespace Go.Proofs.YtcpgdhffemecbaaGreat
open Go.RowKit
set_option linter.unusedVariables false
set_option linter.unusedSimpArgs false
theorem finRange_val (n : Nat) : (List.finRange n).map (fun k => k.1) = List.range n := by
  apply List.ext_getElem
  · simp
  · intro i h1 h2
    simp
theorem finRange_flat (n : Nat) (f : Nat → List (List Int)) : (List.finRange n).flatMap (fun k => f k.1) = (List.range n).flatMap f := by
  rw [← finRange_val, List.flatMap_map]
theorem slice_tail3 (W : World) (b o n c : Nat) (hc : n + 1 ≤ c) : (Instr.slice 24 (.slice (some ⟨b, o, none⟩) (n + 1) c) (some (.int .i64 1)) (some (.int .i64 ((n : Int) + 1))) (some (.int .i64 ((n : Int) + 1)))).run Tryz.prog W = .ok (.slice (if n = 0 then some ⟨b, o, none⟩ else some ⟨b, o + 1, none⟩) n n) W := by
  have hs : (sizeOf 3).run Tryz.prog W = .ok 1 W := by kernel_rfl
  have he : Tryz.prog.elem 24 = 3 := by kernel_rfl
  rw [run_slice_lhm (P := Tryz.prog) (w := W) 24 (some ⟨b, o, none⟩) (n + 1) c (by rw [he]; exact Tryz.underlying24) .i64 .i64 .i64 1 ((n : Int) + 1) ((n : Int) + 1) (by decide) (by omega) (by omega) (by omega), he, hs]
  have e1 : ((n : Int) + 1).toNat = n + 1 := by omega
  by_cases h0 : n = 0
  · subst h0; simp [Result.andThen, sliced, Addr.add]
  · simp [Result.andThen, sliced, Addr.add, e1, h0]
theorem slice_cut3 (W : World) (b : Option Addr) (n e M R N : Nat) (h : M + N = R) (hR : R ≤ e) : (Instr.slice 24 (.slice b n e) (some (.int .i64 (M : Int))) (some (.int .i64 (R : Int))) (some (.int .i64 (R : Int)))).run Tryz.prog W = .ok (.slice (if N = 0 then b else b.map (·.add M)) N N) W := by
  have hs : (sizeOf 3).run Tryz.prog W = .ok 1 W := by kernel_rfl
  have he : Tryz.prog.elem 24 = 3 := by kernel_rfl
  rw [run_slice_lhm (P := Tryz.prog) (w := W) 24 b n e (by rw [he]; exact Tryz.underlying24) .i64 .i64 .i64 (M : Int) (R : Int) (R : Int) (by omega) (by omega) (by omega) (by omega), he, hs]
  have e2 : R - M = N := by omega
  by_cases h0 : N = 0
  · have e3 : R = M := by omega
    simp [Result.andThen, sliced, h0, e3]
  · have e3 : ¬ R = M := by omega
    simp [Result.andThen, sliced, h0, e3, e2]
theorem rows_good {n0 : Int} {t d : List Int} {w : World} {v : Value} (h : ArrI w v (n0 :: t) d) (ho : arrOk (n0 :: t) d = true) :
    Calls Tryz.prog 10 #[v] w fun e w' => ∃ v', e = .returned v' ∧ Arrs w.heap.size w'.heap.size w' v' (rowsF (n0 :: t) d) ∧ Below w.heap.size w w' := by
  have H := h
  obtain ⟨a, c, b, e, rfl, h1, h2, g1, g2⟩ := h
  obtain ⟨b1, o1, rfl, hb1, c0⟩ := h1.at (k := 0) (by simp)
  have hh := head_bd ho
  simp only [List.getD_cons_zero] at hh c0
  rw [Nat.add_zero] at c0
  obtain ⟨cnt, rfl⟩ : ∃ cnt : Nat, n0 = (cnt : Int) := ⟨n0.toNat, by omega⟩
  have k1 := (sizeV_ok (arrOk_shape ho)).1
  simp at k1
  have hdl := arrOk_len ho
  obtain ⟨N, hN⟩ : ∃ N : Nat, (0 < cnt → sizeV t = (N : Int)) ∧ (¬ 0 < cnt → N = 0) := by
    by_cases hp : 0 < cnt
    · exact ⟨(sizeV t).toNat, fun _ => by have := tail_size ho (by omega); omega, fun h => absurd hp h⟩
    · exact ⟨0, fun h => absurd h hp, fun _ => rfl⟩
  have hmul : 0 < cnt → cnt * N = d.length := fun hp => by
    have q := (tail_size ho (by omega)).2.1
    rw [hN.1 hp] at q
    have : ((cnt * N : Nat) : Int) = (d.length : Int) := by simpa using q
    omega
  have hN3 : N ≤ 300 := by
    by_cases hp : 0 < cnt
    · have := (tail_size ho (by omega)).2.2; have := hN.1 hp; omega
    · have := hN.2 hp; omega
  have hle : ∀ k, k < cnt → k * N + N ≤ d.length := fun k hk => by
    have q : (k + 1) * N ≤ cnt * N := Nat.mul_le_mul_right N (by omega)
    rw [hmul (by omega), Nat.add_mul, Nat.one_mul] at q
    exact q
  have ht : Ints w (some ⟨b1, o1 + 1, none⟩) t := by
    rcases h1 with h1 | ⟨b', off', e', hb', hc'⟩
    · cases h1
    · cases e'
      refine .inr ⟨b1, o1 + 1, rfl, hb', fun k hk => ?_⟩
      have q := hc' (k + 1) (by simp; omega)
      rw [show o1 + (k + 1) = o1 + 1 + k by omega] at q
      simpa using q
  have hlen : ∀ k, k < cnt → ((d.drop (k * N)).take N).length = N := fun k hk => by have := hle k hk; simp; omega
  have hF : (List.finRange cnt).flatMap (fun k => [t, (d.drop (k.1 * N)).take N]) = rowsF ((cnt : Int) :: t) d := by
    rw [finRange_flat cnt (fun i => [t, (d.drop (i * N)).take N])]
    unfold rowsF
    rw [if_pos ⟨ho, by simp⟩]
    by_cases hp : 0 < cnt
    · simp [hN.1 hp]
    · obtain rfl : cnt = 0 := by omega
      rfl
  rw [← hF]
  refine rows_walk 0 cnt N t.length b1 o1 c e t.length t d (if t.length = 0 then some ⟨b1, o1, none⟩ else some ⟨b1, o1 + 1, none⟩) b (fun k => if N = 0 then b else b.map (·.add (k * N))) (fun _ => N) (fun k => (d.drop (k * N)).take N) w (by omega) hN3 (by omega) rfl ?_ ho hdl ?_ ?_ H hb1 c0 ?_ ?_
  · intro hp
    rw [← hmul hp]
    rw [Int.natCast_mul, Int.mul_ediv_cancel_left _ (by omega)]
  · exact fun W => slice_tail3 W b1 o1 t.length c (by simpa using g1)
  · intro k M R W hk hM hR
    rw [← hM]
    exact slice_cut3 W b d.length e (k * N) R N (by rw [← hR, Nat.add_mul, Nat.one_mul]) (by have := hle k hk; rw [← hR, Nat.add_mul, Nat.one_mul]; omega)
  · intro k hk
    refine ⟨_, _, _, _, by rw [hlen k hk], ?_, ?_, Nat.le_refl _, by rw [hlen k hk]; exact Nat.le_refl _⟩
    · by_cases h0 : t.length = 0
      · exact .inl (List.eq_nil_of_length_eq_zero h0)
      · rw [if_neg h0]; exact ht
    · by_cases h0 : N = 0
      · subst h0; exact .inl (by simp)
      · have hd0 : 0 < d.length := by have := hle k hk; omega
        obtain ⟨b2, o2, rfl, hb2, _⟩ := h2.at hd0
        rw [if_neg h0]
        have e : (⟨b2, o2, none⟩ : Addr).add (k * N) = ⟨b2, o2 + k * N, none⟩ := by unfold Addr.add; split <;> simp_all
        simp only [Option.map_some, e]
        exact ints_cut h2 (hle k hk)
  · intro k hk
    rw [hlen k hk]; omega
set_option maxRecDepth 20000 in
set_option maxHeartbeats 1000000 in
/-- Rows. -/
theorem rows_impl {s d : List Int} {w : World} {v : Value} (h : ArrI w v s d) (hs : s.length ≤ 1048576) (hd : d.length ≤ 1048576) :
    Calls Tryz.prog 10 #[v] w fun e w' => ∃ v, e = .returned v ∧ Arrs w.heap.size w'.heap.size w' v (rowsF s d) ∧ Below w.heap.size w w' := by
  by_cases hg : arrOk s d = true ∧ s ≠ []
  · obtain ⟨ho, hne⟩ := hg
    cases s with
    | nil => exact absurd rfl hne
    | cons n0 t => exact rows_good h ho
  · have HF : Hid (rowsF s d = []) := by show _ = _; unfold rowsF; rw [if_neg hg]
    have H : Hid (ArrI w v s d) := h
    obtain ⟨a, c, b, e, rfl, _, _, _, _⟩ := h
    have HD : Hid (d.length ≤ 1048576) := hd
    have hq : arrOk s d = false ∨ (arrOk s d = true ∧ s = []) := by
      cases ho : arrOk s d
      · exact .inl rfl
      · exact .inr ⟨rfl, Classical.byContradiction fun e => hg ⟨ho, e⟩⟩
    clear hd hs hg
    rcases hq with hq | ⟨hq, rfl⟩
    all_goals
      have HO : Hid (arrOk _ d = _) := hq
      clear hq
      go_enter Tryz.func10, Tryz.ntmps10
      go_wp2_with fail
      refine (arrOk_impl (H.out.keep (bAlloc (Below.refl _ _) _)) HD.out).mono ?_
      rintro r w1 ⟨rfl, hb⟩
      have HB : Hid (Below w.heap.size w w1) := bTrans (bAlloc (Below.refl _ _) _) hb
      have X : Hid (Box w1 w.heap.size _ (.slice b d.length e) 26) := (box_new w _ _ _).keep hb
      have p0 := X.out.c0
      have p1 := X.out.c1
      clear hb
      rw [HO.out]
      go_wp2
      go_ret
      exact ⟨_, rfl, by rw [HF.out]; exact arrs_none _ _ _ _ _, HB.out⟩
end Go.Proofs.YtcpgdhffemecbaaGreat
namespace Go.Proofs.YtcpgdhffemecbaaGreat
open Go.RowKit Go.Shelf
set_option linter.unusedVariables false
set_option linter.unusedSimpArgs false
attribute [local go_sem] Oper.semAt_some
theorem keeps_of_below {n0 q : Nat} {W W' : World} (h : Below n0 W W') (hq : q < n0) : KeepsBox q W W' := h.block q hq
theorem flat_snocV {cnt : Nat} (f : Fin cnt → List Value) (pre : List (Fin cnt)) (x : Fin cnt) : (pre ++ [x]).flatMap f = pre.flatMap f ++ f x := by simp [List.flatMap_append]
set_option maxRecDepth 100000 in
set_option maxHeartbeats 4000000 in
theorem appendSeq_in (q cnt N r b1 o1 c dl e ct : Nat) (tl b : Option Addr) (ad : Nat → Option Addr) (cd : Nat → Nat) (hc : cnt ≤ 300) (hN : N ≤ 300) (hr : r ≤ 3)
    (hq : 0 < cnt → (dl : Int) / (cnt : Int) = N)
    (hs1 : ∀ W, (Instr.slice 24 (.slice (some ⟨b1, o1, none⟩) (r + 1) c) (some (.int .i64 1)) (some (.int .i64 ((r : Int) + 1))) (some (.int .i64 ((r : Int) + 1)))).run Tryz.prog W = .ok (.slice tl r ct) W)
    (hs2 : ∀ (k M R : Nat) W, k < cnt → k * N = M → (k + 1) * N = R → (Instr.slice 24 (.slice b dl e) (some (.int .i64 (M : Int))) (some (.int .i64 (R : Int))) (some (.int .i64 (R : Int)))).run Tryz.prog W = .ok (.slice (ad k) N (cd k)) W)
    (w : World) (hb1 : b1 < w.heap.size) (hB : Box w q (.slice (some ⟨b1, o1, none⟩) (r + 1) c) (.slice b dl e) 26) (h0 : w.cell? ⟨b1, o1, none⟩ = some (.int .i64 (cnt : Int))) :
    CallsIn Fence.wide 5 Tryz.prog 100 #[.slice none 0 0, .func (.func 74) #[] #[.pointer (some ⟨q, 0, none⟩)]] w fun e W' => ∃ v, e = .returned v ∧ W'.ownsRow w.heap.size 26 2 v cnt ((List.finRange cnt).flatMap (fun k => [.slice tl r ct, .slice (ad k.1) N (cd k.1)])) ∧ Below w.heap.size w W' := by
  obtain ⟨i0, hi0, z1, z2, z3⟩ : ∃ i0, Tryz.prog.info? 26 = some i0 ∧ i0.zero = some (.agg #[.slice none 0 0, .slice none 0 0]) ∧ i0.size = 2 ∧ i0.bytes = 48 := by
    have hi := info_arr
    cases hq : Tryz.prog.info? 26 with
    | none => rw [hq] at hi; cases hi
    | some i => rw [hq] at hi; simp at hi; exact ⟨i, rfl, hi.1, hi.2.1, hi.2.2⟩
  have hqw := hB.lt
  refine callsIn_of_wp_marks Tryz.func100 rfl trivial ?_ rfl
  simp only [Tryz.ntmps100, List.size_toArray, List.length_cons, List.length_nil, Nat.reduceAdd, Nat.reduceSub, Array.replicate_succ, Array.replicate_zero, List.push_toArray, List.append_toArray, List.nil_append, List.cons_append]
  gi_wp2_with fail
  have bO := Boxed.new w 32 (.slice none 0 0)
  have hB0 : Below w.heap.size w (w.alloc (.cells #[.slice none 0 0] 32)) := bAlloc (Below.refl _ _) _
  refine wpIn_rangeFunc_ownH rfl (by decide) (gf := 74) (lb := #[.pointer (some ⟨q, 0, none⟩)]) rfl trivial (enters_of Tryz.func74 (by kernel_rfl) rfl)
    (cut_stops 4 q cnt N r b1 o1 c dl e ct tl b ad cd (by decide) hc hN hr hq hs1 hs2 (w.alloc (.cells #[.slice none 0 0] 32)) (by simp; omega) (hB.keep hB0) ((hB0.cell (p := ⟨b1, o1, none⟩) hb1).trans h0)) keepsBox_t (keepsBox_b (by simp; omega)) (Below.refl _ _) (fun _ => rfl)
    (fun pre W => (∃ v, Boxed W w.heap.size 32 v ∧ W.ownsRow w.heap.size 26 2 v pre.length (pre.flatMap (fun k => [.slice tl r ct, .slice (ad k.1) N (cd k.1)])) ∧ True) ∧ Below w.heap.size w W)
    (fun _ _ _ => False)
    (OwnFrom.and (Own.from (holdsRow_own w.heap.size w.heap.size 32 26 2 (fun pre : List (Fin cnt) => pre.length) (fun pre => pre.flatMap (fun k => [.slice tl r ct, .slice (ad k.1) N (cd k.1)])) (fun _ _ => True)) _) (ownFrom_below (Nat.le_refl _) (by simp)))
    (fun _ _ _ _ _ hs _ _ => hs)
    ⟨⟨_, bO, World.ownsRow_nil _ _ _ _, trivial⟩, hB0⟩
    (fun x a' W => ∃ Bx, w.heap.size < Bx ∧ Box W Bx (.slice tl r ct) (.slice (ad x.1) N (cd x.1)) 26 ∧ a' = { tmps := #[.slice none 0 0, .func (.func 74) #[] #[.pointer (some ⟨q, 0, none⟩)], .pointer (some ⟨w.heap.size, 0, none⟩), undef, .slice none 0 0, .pointer (some ⟨Bx, 0, none⟩), .func (.func 74) #[] #[.pointer (some ⟨q, 0, none⟩)], .agg #[.slice tl r ct, .slice (ad x.1) N (cd x.1)], undef, undef, undef, undef, undef], defers := [] })
    ?hAx ?assign ?body ?done ?stop
  case hAx =>
    rintro x a' _ X Y row ⟨Bx, h1, h2, h3⟩ hg hr'
    refine ⟨Bx, h1, ?_, h3⟩
    unfold Box at h2 ⊢
    rw [hg.block Bx (lt_of_heapA h2) (fun e' => ?_)]
    · exact h2
    · obtain ⟨_, o, ho, hcc⟩ := hr' Bx e'.symm; rw [h2] at ho; cases ho; cases hcc
  case assign =>
    rintro l pre x W K ⟨⟨v, hv, hrow, _⟩, hbl⟩ hK
    gi_wp2
    exact hK _ _ ((KeepsOthers.alloc _ _).from _) (Below.heap_alloc _ _ _ (by have := hbl.size; omega)) ⟨⟨v, hv.alloc _, hrow.alloc _, trivial⟩, bAlloc hbl _⟩ ⟨W.heap.size, hv.lt, box_new W _ _ _, rfl⟩
  case body =>
    rintro l pre x a' W hl _ ⟨⟨v, hv, hrow, _⟩, hbl⟩ ⟨Bx, hBx, hX, rfl⟩ hlt
    have hc' := hv.cell
    have y0 := hX.c0
    have y1 := hX.c1
    have hsz := hbl.size
    gi_wp2_with (gi_at_builtin; refine wpListIn_append_own _ rfl _ _ 32 rfl w.heap.size 26 i0 (.agg #[.slice none 0 0, .slice none 0 0]) 2 48 Tryz.underlying32 hi0 z1 z2 z3 rfl (by decide) _ _ _ rfl (hrow.alloc _) ⟨W.heap.size, 0, none⟩ 1 1 [.slice tl r ct, .slice (ad x.1) N (cd x.1)] rfl rfl (World.news_of_block (cs := #[.slice tl r ct, .slice (ad x.1) N (cd x.1)]) (heap_alloc_new W _)) (by simp [Value.oneCell']) (by unfold maxLen; omega) (by omega) (by simp; omega) ?_; intro v' w1 hown' hgrow _; obtain ⟨g', cap', rfl⟩ := ownsRow_succ hown'; obtain ⟨hv1, hv2, hr2, hk2, hb2⟩ := hv.appended (by decide) hrow hbl.size (Nat.le_refl _) hown' hgrow; have hc1 := hv1.cell; have hf1 := hv1.frozen)
    exact ⟨hk2.from _, keeps_of_below hb2 hqw, ⟨_, hv2, by rw [flat_snocV]; simpa using hr2, trivial⟩, hbl.trans hb2⟩
  case done =>
    rintro D ys W hD rfl ⟨⟨v, hv, hrow, _⟩, hbl⟩ hK
    have hc' := hv.cell
    gi_wp2
    refine ⟨by simp, .inl ⟨_, _, rfl, run_takeDeferred hK, ?_⟩⟩
    refine ⟨_, results_tmp rfl _ _ _, v, rfl, ?_, hbl.trans (belowK_b (w := w) (Nat.le_refl _) W D _ _ (by simp at hD; omega) hK rfl rfl)⟩
    have q := ownsRow_putObj hrow (.deferred none) hK rfl
    rw [List.length_finRange] at q
    exact q
  case stop =>
    rintro D c' pre W _ _ h _
    exact h.elim
set_option maxHeartbeats 1000000 in
/-- slices.Collect. -/
theorem collect_impl (q cnt N r b1 o1 c dl e ct : Nat) (tl b : Option Addr) (ad : Nat → Option Addr) (cd : Nat → Nat) (hc : cnt ≤ 300) (hN : N ≤ 300) (hr : r ≤ 3)
    (hq : 0 < cnt → (dl : Int) / (cnt : Int) = N)
    (hs1 : ∀ W, (Instr.slice 24 (.slice (some ⟨b1, o1, none⟩) (r + 1) c) (some (.int .i64 1)) (some (.int .i64 ((r : Int) + 1))) (some (.int .i64 ((r : Int) + 1)))).run Tryz.prog W = .ok (.slice tl r ct) W)
    (hs2 : ∀ (k M R : Nat) W, k < cnt → k * N = M → (k + 1) * N = R → (Instr.slice 24 (.slice b dl e) (some (.int .i64 (M : Int))) (some (.int .i64 (R : Int))) (some (.int .i64 (R : Int)))).run Tryz.prog W = .ok (.slice (ad k) N (cd k)) W)
    (w : World) (hb1 : b1 < w.heap.size) (hB : Box w q (.slice (some ⟨b1, o1, none⟩) (r + 1) c) (.slice b dl e) 26) (h0 : w.cell? ⟨b1, o1, none⟩ = some (.int .i64 (cnt : Int))) :
    Calls Tryz.prog 76 #[.func (.func 74) #[] #[.pointer (some ⟨q, 0, none⟩)]] w fun e W' => ∃ v, e = .returned v ∧ W'.ownsRow w.heap.size 26 2 v cnt ((List.finRange cnt).flatMap (fun k => [.slice tl r ct, .slice (ad k.1) N (cd k.1)])) ∧ Below w.heap.size w W' := by
  have HA : Hid (Calls Tryz.prog 100 #[.slice none 0 0, .func (.func 74) #[] #[.pointer (some ⟨q, 0, none⟩)]] w fun e W' => ∃ v, e = .returned v ∧ W'.ownsRow w.heap.size 26 2 v cnt ((List.finRange cnt).flatMap (fun k => [.slice tl r ct, .slice (ad k.1) N (cd k.1)])) ∧ Below w.heap.size w W') := (callsIn_wide (n := 5)).1 (appendSeq_in q cnt N r b1 o1 c dl e ct tl b ad cd hc hN hr hq hs1 hs2 w hb1 hB h0)
  clear hc hN hr hq hs1 hs2 hb1 hB h0
  go_enter Tryz.func76, Tryz.ntmps76
  go_wp2_with fail
  refine (HA.out).mono ?_
  rintro r' w1 ⟨v, rfl, hrow, hb⟩
  have HR : Hid (w1.ownsRow w.heap.size 26 2 v cnt ((List.finRange cnt).flatMap (fun k => [.slice tl r ct, .slice (ad k.1) N (cd k.1)])) ∧ Below w.heap.size w w1) := ⟨hrow, hb⟩
  clear hrow hb
  go_wp2
  go_ret
  exact ⟨v, rfl, HR.out.1, HR.out.2⟩
theorem flat2_atV {α : Type} (n k : Nat) (f g : Nat → α) (z : α) (hk : k < n) : ((List.range n).flatMap (fun i => [f i, g i])).getD (2 * k) z = f k ∧ ((List.range n).flatMap (fun i => [f i, g i])).getD (2 * k + 1) z = g k ∧ ((List.range n).flatMap (fun i => [f i, g i])).length = 2 * n := by
  have hlen : ∀ n, ((List.range n).flatMap (fun i => [f i, g i])).length = 2 * n := by
    intro n
    induction n with
    | zero => rfl
    | succ n ih => rw [List.range_succ, List.flatMap_append, List.length_append, ih]; simp; omega
  refine ⟨?_, ?_, hlen n⟩
  all_goals
    induction n with
    | zero => omega
    | succ n ih =>
      rw [List.range_succ, List.flatMap_append, getD_app, hlen n]
      by_cases e : k < n
      · rw [if_pos (by omega)]; exact ih e
      · obtain rfl : k = n := by omega
        rw [if_neg (by omega)]
        first
        | (rw [show 2 * k - 2 * k = 0 by omega]; simp)
        | (rw [show 2 * k + 1 - 2 * k = 1 by omega]; simp)
theorem finRange_flatV {α : Type} (n : Nat) (f : Nat → List α) : (List.finRange n).flatMap (fun k => f k.1) = (List.range n).flatMap f := by
  rw [← finRange_val, List.flatMap_map]
/-- slices.Collect of what cutRows tells, of an array that is right and of rank 1 and above. -/
theorem collect_rows {n0 : Int} {t d : List Int} {w : World} {x y : Value} {q : Nat} (h : ArrI w (.agg #[x, y]) (n0 :: t) d) (ho : arrOk (n0 :: t) d = true) (hB : Box w q x y 26) :
    Calls Tryz.prog 76 #[.func (.func 74) #[] #[.pointer (some ⟨q, 0, none⟩)]] w fun e w' => ∃ v xs, e = .returned v ∧ ListAt w w' v (rowsN (n0 :: t)) xs (flatR t (rowsD (n0 :: t) d)) := by
  have H := h
  obtain ⟨a, c, b, e, ev, h1, h2, g1, g2⟩ := h
  cases ev
  obtain ⟨b1, o1, rfl, hb1, c0⟩ := h1.at (k := 0) (by simp)
  have hh := head_bd ho
  simp only [List.getD_cons_zero] at hh c0
  rw [Nat.add_zero] at c0
  obtain ⟨cnt, rfl⟩ : ∃ cnt : Nat, n0 = (cnt : Int) := ⟨n0.toNat, by omega⟩
  have k1 := (sizeV_ok (arrOk_shape ho)).1
  simp at k1
  have hdl := arrOk_len ho
  obtain ⟨N, hN⟩ : ∃ N : Nat, (0 < cnt → sizeV t = (N : Int)) ∧ (¬ 0 < cnt → N = 0) := by
    by_cases hp : 0 < cnt
    · exact ⟨(sizeV t).toNat, fun _ => by have := tail_size ho (by omega); omega, fun h => absurd hp h⟩
    · exact ⟨0, fun h => absurd h hp, fun _ => rfl⟩
  have hmul : 0 < cnt → cnt * N = d.length := fun hp => by
    have q := (tail_size ho (by omega)).2.1
    rw [hN.1 hp] at q
    have : ((cnt * N : Nat) : Int) = (d.length : Int) := by simpa using q
    omega
  have hN3 : N ≤ 300 := by
    by_cases hp : 0 < cnt
    · have := (tail_size ho (by omega)).2.2; have := hN.1 hp; omega
    · have := hN.2 hp; omega
  have hle : ∀ k, k < cnt → k * N + N ≤ d.length := fun k hk => by
    have q : (k + 1) * N ≤ cnt * N := Nat.mul_le_mul_right N (by omega)
    rw [hmul (by omega), Nat.add_mul, Nat.one_mul] at q
    exact q
  have ht : Ints w (some ⟨b1, o1 + 1, none⟩) t := by
    rcases h1 with h1 | ⟨b', off', e', hb', hc'⟩
    · cases h1
    · cases e'
      refine .inr ⟨b1, o1 + 1, rfl, hb', fun k hk => ?_⟩
      have q := hc' (k + 1) (by simp; omega)
      rw [show o1 + (k + 1) = o1 + 1 + k by omega] at q
      simpa using q
  have hlen : ∀ k, k < cnt → ((d.drop (k * N)).take N).length = N := fun k hk => by have := hle k hk; simp; omega
  have hF : flatR t (rowsD ((cnt : Int) :: t) d) = (List.range cnt).flatMap (fun k => [t, (d.drop (k * N)).take N]) := by
    unfold flatR rowsD
    rw [List.flatMap_map, show rowsN ((cnt : Int) :: t) = cnt by simp [rowsN]]
    by_cases hp : 0 < cnt
    · unfold rowAt
      rw [show rowN ((cnt : Int) :: t) = N by simp [rowN, hN.1 hp]]
    · obtain rfl : cnt = 0 := by omega
      rfl
  have hrow : ∀ k, k < cnt → IntsI w (.slice (if t.length = 0 then some ⟨b1, o1, none⟩ else some ⟨b1, o1 + 1, none⟩) t.length t.length) t ∧ IntsI w (.slice (if N = 0 then b else b.map (·.add (k * N))) N N) ((d.drop (k * N)).take N) := by
    intro k hk
    refine ⟨⟨_, _, rfl, Nat.le_refl _, ?_⟩, ⟨_, _, by rw [hlen k hk], by rw [hlen k hk]; exact Nat.le_refl _, ?_⟩⟩
    · by_cases h0 : t.length = 0
      · exact .inl (List.eq_nil_of_length_eq_zero h0)
      · rw [if_neg h0]; exact ht
    · by_cases h0 : N = 0
      · subst h0; exact .inl (by simp)
      · have hd0 : 0 < d.length := by have := hle k hk; omega
        obtain ⟨b2, o2, rfl, hb2, _⟩ := h2.at hd0
        rw [if_neg h0]
        have e : (⟨b2, o2, none⟩ : Addr).add (k * N) = ⟨b2, o2 + k * N, none⟩ := by unfold Addr.add; split <;> simp_all
        simp only [Option.map_some, e]
        exact ints_cut h2 (hle k hk)
  rw [hF, show rowsN ((cnt : Int) :: t) = cnt by simp [rowsN]]
  refine (collect_impl q cnt N t.length b1 o1 c d.length e t.length (if t.length = 0 then some ⟨b1, o1, none⟩ else some ⟨b1, o1 + 1, none⟩) b (fun k => if N = 0 then b else b.map (·.add (k * N))) (fun _ => N) (by omega) hN3 (by omega) ?_ ?_ ?_ w hb1 hB c0).mono ?_
  · intro hp
    rw [← hmul hp]
    rw [Int.natCast_mul, Int.mul_ediv_cancel_left _ (by omega)]
  · exact fun W => slice_tail3 W b1 o1 t.length c (by simpa using g1)
  · intro k M R W hk hM hR
    rw [← hM]
    exact slice_cut3 W b d.length e (k * N) R N (by rw [← hR, Nat.add_mul, Nat.one_mul]) (by have := hle k hk; rw [← hR, Nat.add_mul, Nat.one_mul]; omega)
  · rintro r' w1 ⟨v, rfl, hrow', hb⟩
    rw [finRange_flatV cnt (fun k => [Value.slice (if t.length = 0 then some ⟨b1, o1, none⟩ else some ⟨b1, o1 + 1, none⟩) t.length t.length, .slice (if N = 0 then b else b.map (·.add (k * N))) N N])] at hrow'
    refine ⟨v, _, rfl, hrow', fun j hj => ?_, flat2_length cnt _ (fun _ => rfl), hb⟩
    obtain ⟨k, hk, hj2⟩ : ∃ k, k < cnt ∧ (j = 2 * k ∨ j = 2 * k + 1) := ⟨j / 2, by omega, by omega⟩
    obtain ⟨v1, v2, _⟩ := flat2_atV cnt k (fun _ => Value.slice (if t.length = 0 then some ⟨b1, o1, none⟩ else some ⟨b1, o1 + 1, none⟩) t.length t.length) (fun k => Value.slice (if N = 0 then b else b.map (·.add (k * N))) N N) undef hk
    obtain ⟨l1, l2⟩ := flat2_at cnt k (fun _ => t) (fun k => (d.drop (k * N)).take N) hk
    obtain ⟨i1, i2⟩ := hrow k hk
    rcases hj2 with rfl | rfl
    · rw [v1, l1]; exact i1
    · rw [v2, l2]; exact i2
end Go.Proofs.YtcpgdhffemecbaaGreat
namespace Go.Proofs.YtcpgdhffemecbaaGreat
open Go.RowKit Go.Shelf
set_option linter.unusedVariables false
set_option linter.unusedSimpArgs false
attribute [local go_sem] Oper.semAt_some
/-- What a round keeps: the box of the list, and the list. -/
def KeepsTwo (q b : Nat) (W W' : World) : Prop := W'.heap[q]? = W.heap[q]? ∧ W'.heap[b]? = W.heap[b]?
theorem keepsTwo_t {q b : Nat} {A B C : World} (h : KeepsTwo q b A B) (k : KeepsTwo q b B C) : KeepsTwo q b A C := ⟨k.1.trans h.1, k.2.trans h.2⟩
theorem keepsTwo_b {q b : Nat} {w : World} (hq : q < w.heap.size) (hb : b < w.heap.size) (W : World) (l : Nat) (o o' : Obj) (hl : w.heap.size ≤ l) (_ : W.heap[l]? = some o) (_ : o.isCells = false) (_ : o.isWalk = false) : KeepsTwo q b W (W.putObj l o') :=
  ⟨World.putObj_heap_other (by omega), World.putObj_heap_other (by omega)⟩
theorem cell_same {W W' : World} {b o : Nat} (h : W'.heap[b]? = W.heap[b]?) : W'.cell? ⟨b, o, none⟩ = W.cell? ⟨b, o, none⟩ := World.cell?_of_block (w := W) (w' := W') (a := ⟨b, o, none⟩) h
end Go.Proofs.YtcpgdhffemecbaaGreat
namespace Go.Proofs.YtcpgdhffemecbaaGreat
open Go.RowKit Go.Shelf
set_option linter.unusedVariables false
set_option linter.unusedSimpArgs false
attribute [local go_sem] Oper.semAt_some
set_option maxRecDepth 100000 in
set_option maxHeartbeats 4000000 in
theorem backA_in (n l q b1 o1 c m : Nat) (a : Option Addr) (xa ya : Nat → Option Addr) (xl xc yl yc : Nat → Nat) (hn : 1 ≤ n) (hc : m ≤ 300) (ha : 0 < m → a = some ⟨b1, o1, none⟩)
    (J Jx : List (Fin m) → World → Prop)
    (hY : ∀ pre x W, J pre W → pre.length < m → YieldAt Fence.wide (n - 1) Tryz.prog l #[.int .i64 ((m - 1 - x.1 : Nat) : Int), .agg #[.slice (xa (m - 1 - x.1)) (xl (m - 1 - x.1)) (xc (m - 1 - x.1)), .slice (ya (m - 1 - x.1)) (yl (m - 1 - x.1)) (yc (m - 1 - x.1))]] W fun e W' =>
      (e = .returned (.bool true) ∧ J (pre ++ [x]) W' ∧ KeepsTwo q b1 W W') ∨ (e = .returned (.bool false) ∧ Jx (pre ++ [x]) W'))
    (W : World) (hJ : AbidesFrom W.heap.size J) (hB : W.cell? ⟨q, 0, none⟩ = some (.slice a m c)) (h0 : ∀ j, j < m → W.cell? ⟨b1, o1 + j * 2, none⟩ = some (.slice (xa j) (xl j) (xc j)) ∧ W.cell? ⟨b1, o1 + j * 2 + 1, none⟩ = some (.slice (ya j) (yl j) (yc j))) (hj : J [] W) :
    CallsIn Fence.wide n Tryz.prog 104 #[.func (.yield l) #[] #[], .pointer (some ⟨q, 0, none⟩)] W fun e W' => (∃ v, e = .returned v) ∧
      ((∃ ys, ys = List.finRange m ∧ J ys W') ∨ (∃ pre, (∃ k, k ≤ m ∧ pre = upto m k) ∧ Jx pre W')) := by
  have HB : Hid (W.cell? ⟨q, 0, none⟩ = some (.slice a m c)) := hB
  have HA : Hid (0 < m → a = some ⟨b1, o1, none⟩) := ha
  have H0 : Hid (∀ j, j < m → W.cell? ⟨b1, o1 + j * 2, none⟩ = some (.slice (xa j) (xl j) (xc j)) ∧ W.cell? ⟨b1, o1 + j * 2 + 1, none⟩ = some (.slice (ya j) (yl j) (yc j))) := h0
  have HJ : Hid (AbidesFrom W.heap.size J) := hJ
  clear h0 hJ ha
  refine callsIn_of_wp Tryz.func104 rfl trivial ?_ rfl
  simp only [Tryz.ntmps104, List.size_toArray, List.length_cons, List.length_nil, Nat.reduceAdd, Nat.reduceSub, Array.replicate_succ, Array.replicate_zero, List.push_toArray, List.append_toArray, List.nil_append, List.cons_append]
  gi_wp2
  clear hB
  gi_loopw [3] (fun i wr => ∃ k : Nat, k ≤ m ∧ i = .int .i64 ((m : Int) - 1 - (k : Int)) ∧ J (upto m k) wr ∧ KeepsTwo q b1 W wr)
    (fun i _ => (intOf i + 1).toNat)
  case atStart => exact ⟨0, by omega, by simp, HJ.out _ _ _ none hj ⟨rfl, rfl, rfl, Nat.le_refl _, fun _ _ _ => rfl⟩ (fun r e => by cases e), rfl, rfl⟩
  case round =>
    obtain ⟨k, hk, rfl, hJs, hnx⟩ := hrel
    have x0 : wr.cell? ⟨q, 0, none⟩ = some (.slice a m c) := (cell_same hnx.1).trans HB.out
    by_cases hlt : (k : Int) < (m : Int)
    · rw [HA.out (by omega)] at x0
      obtain ⟨M, hM⟩ : ∃ M : Nat, M = m - 1 - k := ⟨_, rfl⟩
      have eM : (m : Int) - 1 - (k : Int) = (M : Int) := by omega
      have hMl : (M : Int) < (m : Int) := by omega
      have c1 : wr.cell? ⟨b1, o1 + M * 2, none⟩ = some (.slice (xa M) (xl M) (xc M)) := (cell_same hnx.2).trans (H0.out M (by omega)).1
      have c2 : wr.cell? ⟨b1, o1 + M * 2 + 1, none⟩ = some (.slice (ya M) (yl M) (yc M)) := (cell_same hnx.2).trans (H0.out M (by omega)).2
      have HL : Hid (k < m) := by show _ < _; omega
      have HJS : Hid (J (upto m k) wr) := hJs
      have HNX : Hid (KeepsTwo q b1 W wr) := hnx
      have hY' := hY (upto m k) ⟨k, HL.out⟩
      rw [← hM] at hY'
      have HM : Hid (M = m - 1 - k) := hM
      rw [eM]
      generalize xa M = xaM at *
      generalize xl M = xlM at *
      generalize xc M = xcM at *
      generalize ya M = yaM at *
      generalize yl M = ylM at *
      generalize yc M = ycM at *
      clear hM hJs hnx hY
      obtain ⟨fn, tmps, assign, body, hy, hRd⟩ := hY' wr HJS.out (by rw [upto_length hk]; exact HL.out)
      try dsimp only at hy
      clear hY'
      gi_wp2
      refine hRd.mono ?_
      rintro e' W4 (⟨rfl, hJ4, hk4⟩ | ⟨rfl, hJx4⟩)
      · have HJ4 : Hid (J (upto m (k + 1)) W4) := by show J _ _; rw [upto_succ HL.out]; exact hJ4
        have HK4 : Hid (KeepsTwo q b1 W W4) := keepsTwo_t HNX.out hk4
        clear hJ4 hk4
        gi_wp2
        go_roundw
        case rel => exact ⟨k + 1, by have := HL.out; omega, by first | go_num | (congr 1; omega) | (simp; omega), HJ4.out, HK4.out⟩
        case measure => simp [intOf]
      · have HX : Hid (Jx (upto m (k + 1)) W4) := by show Jx _ _; rw [upto_succ HL.out]; exact hJx4
        clear hJx4
        gi_wp2
        refine bodyPost_ret (results_none rfl _ _ _) rfl ?_
        exact ⟨⟨_, rfl⟩, .inr ⟨_, ⟨k + 1, HL.out, rfl⟩, HX.out⟩⟩
    · obtain rfl : k = m := by omega
      rw [upto_all] at hJs
      have e0 : (k : Int) - 1 - (k : Int) = -1 := by omega
      rw [e0]
      gi_wp2
      go_end0
      first
        | exact ⟨⟨_, rfl⟩, .inl ⟨_, rfl, hJs⟩⟩
        | exact ⟨⟨_, rfl⟩, .inl hJs⟩
/-- slices.Backward: the list is boxed; the function value captures the box. -/
theorem backwardA_in (n : Nat) (v : Value) (w : World) (hv : v.oneCell' = true) :
    CallsIn Fence.wide n Tryz.prog 78 #[v] w fun e w' => e = .returned (.func (.func 104) #[] #[.pointer (some ⟨w.heap.size, 0, none⟩)]) ∧ w' = w.alloc (.cells #[v] 32) := by
  refine callsIn_of_wp Tryz.func78 rfl trivial ?_ rfl
  simp only [Tryz.ntmps78, List.size_toArray, List.length_cons, List.length_nil, Nat.reduceAdd, Nat.reduceSub, Array.replicate_succ, Array.replicate_zero, List.push_toArray, List.append_toArray, List.nil_append, List.cons_append]
  gi_wp2
  go_ret
  exact ⟨rfl, rfl⟩
/-- The value that slices.Backward hands back tells the arrays from the end. -/
theorem backA_stops (n q b1 o1 c m : Nat) (a : Option Addr) (xa ya : Nat → Option Addr) (xl xc yl yc : Nat → Nat) (hn : 1 ≤ n) (hc : m ≤ 300) (ha : 0 < m → a = some ⟨b1, o1, none⟩) (w : World) (hq : q < w.heap.size) (hb1 : b1 < w.heap.size) (hB : w.cell? ⟨q, 0, none⟩ = some (.slice a m c)) (h0 : ∀ j, j < m → w.cell? ⟨b1, o1 + j * 2, none⟩ = some (.slice (xa j) (xl j) (xc j)) ∧ w.cell? ⟨b1, o1 + j * 2 + 1, none⟩ = some (.slice (ya j) (yl j) (yc j))) :
    SeqStopsK Fence.wide n Tryz.prog 104 #[.pointer (some ⟨q, 0, none⟩)] (fun x : Fin m => #[.int .i64 ((m - 1 - x.1 : Nat) : Int), .agg #[.slice (xa (m - 1 - x.1)) (xl (m - 1 - x.1)) (xc (m - 1 - x.1)), .slice (ya (m - 1 - x.1)) (yl (m - 1 - x.1)) (yc (m - 1 - x.1))]]) (KeepsTwo q b1) (fun ys => ys = List.finRange m) (fun pre => ∃ k, k ≤ m ∧ pre = upto m k) m w := fun l J Jx W hW hJ _ hY hj =>
  backA_in n l q b1 o1 c m a xa ya xl xc yl yc hn hc ha J Jx hY W hJ ((hW.cell (p := ⟨q, 0, none⟩) hq).trans hB) (fun j hj => ⟨(hW.cell (p := ⟨b1, o1 + j * 2, none⟩) hb1).trans (h0 j hj).1, (hW.cell (p := ⟨b1, o1 + j * 2 + 1, none⟩) hb1).trans (h0 j hj).2⟩) hj
end Go.Proofs.YtcpgdhffemecbaaGreat
namespace Go.Proofs.YtcpgdhffemecbaaGreat
open Go.RowKit
end Go.Proofs.YtcpgdhffemecbaaGreat
namespace Go.Proofs.YtcpgdhffemecbaaGreat
open Go.RowKit
theorem ret_int {k : IntKind} {a b : Int} (h : a = b) : Ending.returned (.int k a) = .returned (.int k b) := by rw [h]
theorem ret_two {a b c d : Int} (h : a = b) (h' : c = d) : Ending.returned (.tuple #[.int .i64 a, .int .i64 c]) = .returned (.tuple #[.int .i64 b, .int .i64 d]) := by rw [h, h']

set_option maxHeartbeats 400000 in
theorem roundedDown_impl (a b : Int) (hb : b ≠ 0) (a1 : -1000000000000 ≤ a) (a2 : a ≤ 1000000000000) (b1 : -1000000000000 ≤ b) (b2 : b ≤ 1000000000000) (w : World) :
    Calls Tryz.prog 129 #[.int .i64 a, .int .i64 b] w fun e w' => e = .returned (.int .i64 (flo a b)) ∧ w' = w := by
  have ht := tdiv_bd (b := b) a1 a2
  have _ := b1
  have _ := b2
  have hg := flo_go a b hb
  have HG : Hid (flo a b = if a.tmod b ≠ 0 ∧ (decide (a < 0) != decide (b < 0)) = true then a.tdiv b - 1 else a.tdiv b) := hg
  clear hg
  obtain ⟨t1, t2⟩ := ht
  go_enter Tryz.func129, Tryz.ntmps129
  go_wp2
  all_goals
    go_ret
    refine ⟨ret_int ?_, rfl⟩
    rw [HG.out]
    simp_all [bne]
set_option maxHeartbeats 400000 in
theorem digits_impl (x : Int) (h1 : -1000000000000 ≤ x) (h2 : x ≤ 1000000000000) (w : World) :
    Calls Tryz.prog 128 #[.int .i64 x] w fun e w' => e = .returned (.int .i64 (bits x.natAbs)) ∧ w' = w := by
  have hm := mag_bd h1 h2
  go_enter Tryz.func128, Tryz.ntmps128
  go_wp2_with (go_at_call 132; refine (withoutSign_impl _ h1 h2 _).mono ?_; rintro e w' ⟨rfl, rfl⟩)
  go_loop [3, 4] (fun n r => ∃ (k m : Nat), k + bits m = bits x.natAbs ∧ m ≤ 1000000000000 ∧ n = .int .i64 k ∧ r = .int .i64 m) (fun _ r => (intOf r).toNat)
  case atStart => exact ⟨0, x.natAbs, by omega, by omega, rfl, by rw [mag_abs]⟩
  case round =>
    obtain ⟨k, m, hk, hmm, rfl, rfl⟩ := hrel
    have hs := bits_small hmm
    have hx := bits_small (show x.natAbs ≤ 1000000000000 by omega)
    by_cases hp : 0 < m
    · have hb := bits_pos hp
      have HB : Hid (bits m = bits (m / 2) + 1) := hb
      have HK : Hid (k + bits m = bits x.natAbs) := hk
      have hkb : k ≤ 40 := by omega
      clear hb hk
      go_wp2
      go_round
      case rel => exact ⟨k + 1, m / 2, by have := HB.out; have := HK.out; omega, by omega, by go_num, by go_num⟩
      case measure => simp [intOf]; omega
    · obtain rfl : m = 0 := by omega
      go_wp2
      go_ret
      exact ⟨ret_int (by rw [bits_zero] at hk; omega), rfl⟩
theorem digits_top (w : World) : Calls Tryz.prog 128 #[.int .i64 1000000000000] w fun e w' => e = .returned (.int .i64 40) ∧ w' = w := by
  refine (digits_impl 1000000000000 (by decide) (by decide) w).mono ?_
  rintro e w' ⟨rfl, rfl⟩
  refine ⟨ret_int ?_, rfl⟩
  have : (1000000000000 : Int).natAbs = 1000000000000 := rfl
  rw [this, bits_top]; rfl
set_option maxHeartbeats 400000 in
theorem oneIf_impl (b : Bool) (w : World) : Calls Tryz.prog 130 #[.bool b] w fun e w' => e = .returned (.int .i64 (bit b)) ∧ w' = w := by
  cases b <;> (go_enter Tryz.func130, Tryz.ntmps130; go_wp2; go_ret; exact ⟨rfl, rfl⟩)
set_option maxHeartbeats 400000 in
theorem rol_impl (x : Int) (w : World) : Calls Tryz.prog 94 #[.int .i64 x, .int .i64 0] w fun e w' => e = .returned (.tuple #[.int .i64 (limV x), .int .i64 (limC x)]) ∧ w' = w := by
  by_cases h : ok x = true
  · go_enter Tryz.func94, Tryz.ntmps94
    go_wp2_with (go_at_call 92; refine (numOk_impl _ _).mono ?_; rintro e w' ⟨rfl, rfl⟩)
    go_ret2
    exact ⟨ret_two (lim_yes h).1.symm (lim_yes h).2.symm, rfl⟩
  · have h : ok x = false := by simpa using h
    go_enter Tryz.func94, Tryz.ntmps94
    go_wp2_with (go_at_call 92; refine (numOk_impl _ _).mono ?_; rintro e w' ⟨rfl, rfl⟩)
    go_ret2
    exact ⟨ret_two (lim_no h).1.symm (lim_no h).2.symm, rfl⟩
set_option maxHeartbeats 400000 in
theorem rol_code (x c : Int) (hc : (c == 0) = false) (w : World) : Calls Tryz.prog 94 #[.int .i64 x, .int .i64 c] w fun e w' => e = .returned (.tuple #[.int .i64 0, .int .i64 c]) ∧ w' = w := by
  go_enter Tryz.func94, Tryz.ntmps94
  go_wp2
  go_ret2
  exact ⟨rfl, rfl⟩
set_option maxHeartbeats 400000 in
theorem sum_impl (a b : Int) (a1 : -1000000000000 ≤ a) (a2 : a ≤ 1000000000000) (b1 : -1000000000000 ≤ b) (b2 : b ≤ 1000000000000) (w : World) : Calls Tryz.prog 113 #[.int .i64 a, .int .i64 b] w fun e w' => e = .returned (.tuple #[.int .i64 (a + b), .int .i64 0]) ∧ w' = w := by
  go_enter Tryz.func113, Tryz.ntmps113
  go_wp2
  go_ret2
  exact ⟨rfl, rfl⟩
set_option maxHeartbeats 400000 in
theorem difference_impl (a b : Int) (a1 : -1000000000000 ≤ a) (a2 : a ≤ 1000000000000) (b1 : -1000000000000 ≤ b) (b2 : b ≤ 1000000000000) (w : World) : Calls Tryz.prog 114 #[.int .i64 a, .int .i64 b] w fun e w' => e = .returned (.tuple #[.int .i64 (a - b), .int .i64 0]) ∧ w' = w := by
  go_enter Tryz.func114, Tryz.ntmps114
  go_wp2
  go_ret2
  exact ⟨rfl, rfl⟩
set_option maxHeartbeats 400000 in
theorem isEqual_impl (a b : Int) (w : World) : Calls Tryz.prog 120 #[.int .i64 a, .int .i64 b] w fun e w' => e = .returned (.tuple #[.int .i64 (bit (a == b)), .int .i64 0]) ∧ w' = w := by
  go_enter Tryz.func120, Tryz.ntmps120
  go_wp2_with (go_at_call 130; refine (oneIf_impl _ _).mono ?_; rintro e w' ⟨rfl, rfl⟩)
  go_ret2
  exact ⟨rfl, rfl⟩
set_option maxHeartbeats 400000 in
theorem isBelow_impl (a b : Int) (w : World) : Calls Tryz.prog 121 #[.int .i64 a, .int .i64 b] w fun e w' => e = .returned (.tuple #[.int .i64 (bit (decide (a < b))), .int .i64 0]) ∧ w' = w := by
  go_enter Tryz.func121, Tryz.ntmps121
  go_wp2_with (go_at_call 130; refine (oneIf_impl _ _).mono ?_; rintro e w' ⟨rfl, rfl⟩)
  go_ret2
  exact ⟨rfl, rfl⟩
set_option maxHeartbeats 400000 in
theorem isAbove_impl (a b : Int) (w : World) : Calls Tryz.prog 122 #[.int .i64 a, .int .i64 b] w fun e w' => e = .returned (.tuple #[.int .i64 (bit (decide (b < a))), .int .i64 0]) ∧ w' = w := by
  go_enter Tryz.func122, Tryz.ntmps122
  go_wp2_with (go_at_call 130; refine (oneIf_impl _ _).mono ?_; rintro e w' ⟨rfl, rfl⟩)
  go_ret2
  exact ⟨rfl, rfl⟩
set_option maxHeartbeats 400000 in
theorem lesser_impl (a b : Int) (w : World) : Calls Tryz.prog 118 #[.int .i64 a, .int .i64 b] w fun e w' => e = .returned (.tuple #[.int .i64 (mn a b), .int .i64 0]) ∧ w' = w := by
  go_enter Tryz.func118, Tryz.ntmps118
  go_wp2
  all_goals
    go_ret2
    exact ⟨ret_two (by unfold mn; split <;> omega) rfl, rfl⟩
set_option maxHeartbeats 400000 in
theorem greater_impl (a b : Int) (w : World) : Calls Tryz.prog 119 #[.int .i64 a, .int .i64 b] w fun e w' => e = .returned (.tuple #[.int .i64 (mx a b), .int .i64 0]) ∧ w' = w := by
  go_enter Tryz.func119, Tryz.ntmps119
  go_wp2
  all_goals
    go_ret2
    exact ⟨ret_two (by unfold mx; split <;> omega) rfl, rfl⟩
set_option maxHeartbeats 400000 in
theorem quotient_impl0 (a : Int) (w : World) : Calls Tryz.prog 116 #[.int .i64 a, .int .i64 0] w fun e w' => e = .returned (.tuple #[.int .i64 0, .int .i64 2]) ∧ w' = w := by
  go_enter Tryz.func116, Tryz.ntmps116
  go_wp2
  go_ret2
  exact ⟨rfl, rfl⟩
set_option maxHeartbeats 400000 in
theorem quotient_impl (a b : Int) (hb : b ≠ 0) (a1 : -1000000000000 ≤ a) (a2 : a ≤ 1000000000000) (b1 : -1000000000000 ≤ b) (b2 : b ≤ 1000000000000) (w : World) : Calls Tryz.prog 116 #[.int .i64 a, .int .i64 b] w fun e w' => e = .returned (.tuple #[.int .i64 (flo a b), .int .i64 0]) ∧ w' = w := by
  have hb' : (b == 0) = false := by simpa using hb
  go_enter Tryz.func116, Tryz.ntmps116
  go_wp2_with (go_at_call 129; refine (roundedDown_impl _ _ hb a1 a2 b1 b2 _).mono ?_; rintro e w' ⟨rfl, rfl⟩)
  go_ret2
  exact ⟨rfl, rfl⟩
set_option maxHeartbeats 400000 in
theorem remainder_impl0 (b : Int) (w : World) : Calls Tryz.prog 117 #[.int .i64 0, .int .i64 b] w fun e w' => e = .returned (.tuple #[.int .i64 b, .int .i64 0]) ∧ w' = w := by
  go_enter Tryz.func117, Tryz.ntmps117
  go_wp2
  go_ret2
  exact ⟨rfl, rfl⟩
set_option maxHeartbeats 400000 in
theorem remainder_impl (a b : Int) (ha : a ≠ 0) (a1 : -1000000000000 ≤ a) (a2 : a ≤ 1000000000000) (b1 : -1000000000000 ≤ b) (b2 : b ≤ 1000000000000) (w : World) : Calls Tryz.prog 117 #[.int .i64 a, .int .i64 b] w fun e w' => e = .returned (.tuple #[.int .i64 (rst b a), .int .i64 0]) ∧ w' = w := by
  have ha' : (a == 0) = false := by simpa using ha
  have he : Hid (b - a * flo b a = rst b a) := rst_eq b a
  have hr := rst_bd (a := b) ha a1 a2
  have p1 : -2000000000000 ≤ a * flo b a := by have := he.out; omega
  have p2 : a * flo b a ≤ 2000000000000 := by have := he.out; omega
  clear hr
  go_enter Tryz.func117, Tryz.ntmps117
  go_wp2_with (go_at_call 129; refine (roundedDown_impl _ _ ha b1 b2 a1 a2 _).mono ?_; rintro e w' ⟨rfl, rfl⟩)
  go_ret2
  exact ⟨ret_two he.out rfl, rfl⟩
set_option maxHeartbeats 400000 in
theorem product_impl1 (a b : Int) (a1 : -1000000000000 ≤ a) (a2 : a ≤ 1000000000000) (b1 : -1000000000000 ≤ b) (b2 : b ≤ 1000000000000) (h : 41 < bits a.natAbs + bits b.natAbs) (w : World) : Calls Tryz.prog 115 #[.int .i64 a, .int .i64 b] w fun e w' => e = .returned (.tuple #[.int .i64 0, .int .i64 6]) ∧ w' = w := by
  have A1 := bits_small (show a.natAbs ≤ 1000000000000 by omega)
  have A2 := bits_small (show b.natAbs ≤ 1000000000000 by omega)
  have h' : (40 : Int) < (bits a.natAbs : Int) + (bits b.natAbs : Int) - 1 := by omega
  go_enter Tryz.func115, Tryz.ntmps115
  go_wp2_with fail
  refine (digits_impl a a1 a2 _).mono ?_
  rintro e w' ⟨rfl, rfl⟩
  go_wp2_with fail
  refine (digits_impl b b1 b2 _).mono ?_
  rintro e w' ⟨rfl, rfl⟩
  go_wp2_with fail
  refine (digits_top _).mono ?_
  rintro e w' ⟨rfl, rfl⟩
  go_wp2
  go_ret2
  exact ⟨rfl, rfl⟩
set_option maxHeartbeats 400000 in
theorem product_impl2 (a b : Int) (a1 : -1000000000000 ≤ a) (a2 : a ≤ 1000000000000) (b1 : -1000000000000 ≤ b) (b2 : b ≤ 1000000000000) (h : bits a.natAbs + bits b.natAbs ≤ 41) (w : World) : Calls Tryz.prog 115 #[.int .i64 a, .int .i64 b] w fun e w' => e = .returned (.tuple #[.int .i64 (a * b), .int .i64 0]) ∧ w' = w := by
  have A1 := bits_small (show a.natAbs ≤ 1000000000000 by omega)
  have A2 := bits_small (show b.natAbs ≤ 1000000000000 by omega)
  have h' : ¬ (40 : Int) < (bits a.natAbs : Int) + (bits b.natAbs : Int) - 1 := by omega
  obtain ⟨p1, p2⟩ := prod_small h
  go_enter Tryz.func115, Tryz.ntmps115
  go_wp2_with fail
  refine (digits_impl a a1 a2 _).mono ?_
  rintro e w' ⟨rfl, rfl⟩
  go_wp2_with fail
  refine (digits_impl b b1 b2 _).mono ?_
  rintro e w' ⟨rfl, rfl⟩
  go_wp2_with fail
  refine (digits_top _).mono ?_
  rintro e w' ⟨rfl, rfl⟩
  go_wp2
  go_ret2
  exact ⟨rfl, rfl⟩

def cellsTwo : Array Value := #[.int .i64 43, .func (.func 113) #[] #[], .int .i64 45, .func (.func 114) #[] #[], .int .i64 42, .func (.func 115) #[] #[], .int .i64 37, .func (.func 116) #[] #[], .int .i64 124, .func (.func 117) #[] #[], .int .i64 38, .func (.func 118) #[] #[], .int .i64 94, .func (.func 119) #[] #[], .int .i64 61, .func (.func 120) #[] #[], .int .i64 60, .func (.func 121) #[] #[], .int .i64 62, .func (.func 122) #[] #[]]
def zerosTwo : Array Value := #[.int .i64 0, .nilFunc, .int .i64 0, .nilFunc, .int .i64 0, .nilFunc, .int .i64 0, .nilFunc, .int .i64 0, .nilFunc, .int .i64 0, .nilFunc, .int .i64 0, .nilFunc, .int .i64 0, .nilFunc, .int .i64 0, .nilFunc, .int .i64 0, .nilFunc]
def rulesTwo : Value := .agg cellsTwo
theorem cellsTwo_one : cellsTwo.all (·.oneCell') = true := by kernel_rfl
theorem modify_push {α : Type} (xs : Array α) (o p : α) (f : α → α) (hf : f o = p) : (xs.push o).modify xs.size f = xs.push p := by
  apply Array.ext
  · simp
  · intro i h1 h2
    rw [Array.getElem_modify]
    simp only [Array.getElem_push]
    by_cases e : i < xs.size
    · simp [e, show ¬ xs.size = i by omega]
    · have : xs.size = i := by simp at h2; omega
      simp [this, hf]
theorem setRow_alloc (w : World) (old cs : Array Value) (t : TypeId) : (w.alloc (.cells old t)).setRow w.heap.size cs = w.alloc (.cells cs t) := by
  unfold World.setRow
  rw [show (w.alloc (.cells old t)).heap = w.heap.push (.cells old t) from rfl, modify_push _ _ (.cells cs t) _ rfl]
  rfl
set_option maxHeartbeats 400000 in
theorem twoRules_impl (w : World) : Calls Tryz.prog 93 #[] w fun e w' => e = .returned rulesTwo ∧ ∃ c : Array Value, w' = w.alloc (.cells c 108) := by
  have hg : (w.alloc (.cells zerosTwo 108)).heap[w.heap.size]? = some (.cells zerosTwo 108 (0, 0)) := heap_alloc_new w _
  go_enter Tryz.func93, Tryz.ntmps93
  go_wp2_with (refine wpList_store_row rfl 108 _ _ rfl w.heap.size cellsTwo rfl rfl 108 zerosTwo hg (by kernel_rfl) rfl cellsTwo_one ?_)
  refine bodyPost_ret (v := rulesTwo) ?_ rfl ⟨rfl, cellsTwo, setRow_alloc _ _ _ _⟩
  exact results_cell_row Tryz.results93 _ _ w.heap.size 108 cellsTwo (0, 0) _ rfl (setRow_heap _ _ zerosTwo _ _ _ hg) Tryz.underlying108 rfl (by kernel_rfl)
theorem ixTwo0 (w : World) : (Instr.index 108 rulesTwo (.int .i64 0)).run Tryz.prog w = .ok (.agg #[.int .i64 43, .func (.func 113) #[] #[]]) w := by kernel_rfl
theorem ixTwo1 (w : World) : (Instr.index 108 rulesTwo (.int .i64 1)).run Tryz.prog w = .ok (.agg #[.int .i64 45, .func (.func 114) #[] #[]]) w := by kernel_rfl
theorem ixTwo2 (w : World) : (Instr.index 108 rulesTwo (.int .i64 2)).run Tryz.prog w = .ok (.agg #[.int .i64 42, .func (.func 115) #[] #[]]) w := by kernel_rfl
theorem ixTwo3 (w : World) : (Instr.index 108 rulesTwo (.int .i64 3)).run Tryz.prog w = .ok (.agg #[.int .i64 37, .func (.func 116) #[] #[]]) w := by kernel_rfl
theorem ixTwo4 (w : World) : (Instr.index 108 rulesTwo (.int .i64 4)).run Tryz.prog w = .ok (.agg #[.int .i64 124, .func (.func 117) #[] #[]]) w := by kernel_rfl
theorem ixTwo5 (w : World) : (Instr.index 108 rulesTwo (.int .i64 5)).run Tryz.prog w = .ok (.agg #[.int .i64 38, .func (.func 118) #[] #[]]) w := by kernel_rfl
theorem ixTwo6 (w : World) : (Instr.index 108 rulesTwo (.int .i64 6)).run Tryz.prog w = .ok (.agg #[.int .i64 94, .func (.func 119) #[] #[]]) w := by kernel_rfl
theorem ixTwo7 (w : World) : (Instr.index 108 rulesTwo (.int .i64 7)).run Tryz.prog w = .ok (.agg #[.int .i64 61, .func (.func 120) #[] #[]]) w := by kernel_rfl
theorem ixTwo8 (w : World) : (Instr.index 108 rulesTwo (.int .i64 8)).run Tryz.prog w = .ok (.agg #[.int .i64 60, .func (.func 121) #[] #[]]) w := by kernel_rfl
theorem ixTwo9 (w : World) : (Instr.index 108 rulesTwo (.int .i64 9)).run Tryz.prog w = .ok (.agg #[.int .i64 62, .func (.func 122) #[] #[]]) w := by kernel_rfl
end Go.Proofs.YtcpgdhffemecbaaGreat
