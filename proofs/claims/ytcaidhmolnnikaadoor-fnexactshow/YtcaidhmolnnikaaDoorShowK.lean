/-
  Walks: the program's (*sheet).text of rank 2 and of rank 3.
-/
import Derived.Test.YtcaidhmolnnikaaDoorShowJ
import Derived.Test.YtcaidhmolnnikaaDoorInReg
namespace Go.Proofs.YtcaidhmolnnikaaDoor
open Go.RowKit Go.Shelf
set_option linter.unusedVariables false
set_option linter.unusedSimpArgs false
attribute [local go_sem] Oper.semAt_some
theorem grown_set (W : World) (g o : Nat) (u : Value) : W.grownBy (W.setCell ⟨g, o, none⟩ u) (some g) := by
  have h := win_setCell W g o u
  exact ⟨h.os, h.tape, h.output, h.size, fun k hk hne => h.block k hk (by have : k ≠ g := fun e => hne (by rw [e]); omega)⟩
theorem step_clear_run {ops : Array Oper} {o : Oper} {a : Act} {w w' : World} {K : Act → World → Prop} {Q : Exit → Act → World → Prop} {E : Prop} (hgd : o.guard = none) (s : Operand) (sT : TypeId)
    (ho : o.op = .call { callee := .builtin .clear, args := #[s], argTypes := #[sT] }) (x v : Value) (hs : a.eval s = x)
    (hrun : (Builtin.clear_ #[sT] o.type #[x]).run Tryd.prog w = .ok v w') (hK : K (a.put o.dst v) w') :
    if Region.wanted o (yielded ops a.tmps) = true then Oper.wp Tryd.prog o a w K Q else E := by
  have hw : Region.wanted o (yielded ops a.tmps) = true := by simp [Region.wanted, hgd]
  rw [if_pos hw]
  unfold Oper.wp
  simp [execOp, ho, resolve, invoke, builtin, hs, hrun, Result.andThen]
  exact hK
theorem texts_cut3 (g : Nat) (W : World) : (Instr.sliceAt 57 (.pointer (some ⟨g, 9, none⟩)) none (some (.int .i64 (IntKind.i64.wrap 3))) none).run Tryd.prog W = .ok (.slice (some ⟨g, 9, none⟩) 3 4) W := by kernel_rfl
theorem texts_cut4 (g : Nat) (W : World) : (Instr.sliceAt 57 (.pointer (some ⟨g, 9, none⟩)) none (some (.int .i64 (IntKind.i64.wrap 4))) none).run Tryd.prog W = .ok (.slice (some ⟨g, 9, none⟩) 4 4) W := by kernel_rfl
theorem keeps_below {W W' : World} (h : Below W.heap.size W W') : KeepsOthers W W' := ⟨h.size, fun k o hk _ => by rw [h.block k (Array.getElem?_eq_some_iff.1 hk).1]; exact hk⟩
set_option maxRecDepth 100000 in
set_option maxHeartbeats 4000000 in
theorem text2_walk (cnt N b1 o1 c e ct g m : Nat) (t3 : Value) (t d : List Int) (tl b : Option Addr) (ad : Nat → Option Addr) (cd : Nat → Nat) (f : Nat → ByteArray) (w0 w : World) (hc : cnt ≤ 300) (hN : N ≤ 300)
    (hq : 0 < cnt → (d.length : Int) / (cnt : Int) = N)
    (hs1 : ∀ W, (Instr.slice 22 (.slice (some ⟨b1, o1, none⟩) (1 + 1) c) (some (.int .i64 1)) (some (.int .i64 (((1 : Nat) : Int) + 1))) (some (.int .i64 (((1 : Nat) : Int) + 1)))).run Tryd.prog W = .ok (.slice tl 1 ct) W)
    (hs2 : ∀ (k M R : Nat) W, k < cnt → k * N = M → (k + 1) * N = R → (Instr.slice 22 (.slice b d.length e) (some (.int .i64 (M : Int))) (some (.int .i64 (R : Int))) (some (.int .i64 (R : Int)))).run Tryd.prog W = .ok (.slice (ad k) N (cd k)) W)
    (hb0 : Below w0.heap.size w0 w) (hng : w0.heap.size ≤ g) (hb1 : b1 < w0.heap.size) (h0 : w0.cell? ⟨b1, o1, none⟩ = some (.int .i64 (cnt : Int)))
    (hg : Sheet w g m (.slice none 0 0) t3) (hf : ∀ k, k < cnt → (f k).size ≤ 16777216)
    (hsub : ∀ k, k < cnt → ∀ (W : World) (v : Value), Below w0.heap.size w0 W → Sheet W g m v t3 → Calls Tryd.prog 35 #[.pointer (some ⟨g, 0, none⟩), .agg #[.slice tl 1 ct, .slice (ad k) N (cd k)]] W fun e w' => e = .returned (.string (f k)) ∧ Below W.heap.size W w') :
    Calls Tryd.prog 35 #[.pointer (some ⟨g, 0, none⟩), .agg #[.slice (some ⟨b1, o1, none⟩) 2 c, .slice b d.length e]] w fun e w' => e = .returned (.string (jnS ⟨#[10]⟩ ((List.finRange cnt).map (fun k => f k.1)))) ∧ Below w.heap.size w w' := by
  have B0 : Hid (Below w0.heap.size w0 w) := hb0
  have HG : Hid (Sheet w g m (.slice none 0 0) t3) := hg
  have HS : Hid (∀ k, k < cnt → ∀ (W : World) (v : Value), Below w0.heap.size w0 W → Sheet W g m v t3 → Calls Tryd.prog 35 #[.pointer (some ⟨g, 0, none⟩), .agg #[.slice tl 1 ct, .slice (ad k) N (cd k)]] W fun e w' => e = .returned (.string (f k)) ∧ Below W.heap.size W w') := hsub
  have HF : Hid (∀ k, k < cnt → (f k).size ≤ 16777216) := hf
  have GL : Hid (g < w.heap.size) := lt_of_heapA hg
  clear hb0 hg hsub hf
  refine (callsIn_wide (n := 6)).1 ?_
  refine callsIn_of_wp_marks Tryd.func35 rfl trivial ?_ rfl
  simp only [Tryd.ntmps35, List.size_toArray, List.length_cons, List.length_nil, Nat.reduceAdd, Nat.reduceSub, Array.replicate_succ, Array.replicate_zero, List.push_toArray, List.append_toArray, List.nil_append, List.cons_append]
  gi_wp2_with fail
  refine ⟨trivial, (cutRows_in _ _ _ _ rfl rfl).mono ?_⟩
  rintro rr w2 ⟨rfl, hw⟩
  have n3 := three_new w (.cells #[.pointer (some ⟨g, 0, none⟩)] 94) (.cells #[.slice (some ⟨b1, o1, none⟩) 2 c, .slice b d.length e] 27) (.cells #[.int .i64 2] 3)
  have Bw1 := bAlloc (bAlloc (bAlloc (Below.refl w.heap.size w) (.cells #[.pointer (some ⟨g, 0, none⟩)] 94)) (.cells #[.slice (some ⟨b1, o1, none⟩) 2 c, .slice b d.length e] 27)) (.cells #[.int .i64 2] 3)
  generalize (((w.alloc (.cells #[.pointer (some ⟨g, 0, none⟩)] 94)).alloc (.cells #[.slice (some ⟨b1, o1, none⟩) 2 c, .slice b d.length e] 27)).alloc (.cells #[.int .i64 2] 3)) = w1 at *
  obtain ⟨n3a, n3b, n3c, n3s⟩ := n3
  have bW := bAlloc (Below.refl w1.heap.size w1) (.cells #[.slice (some ⟨b1, o1, none⟩) 2 c, .slice b d.length e] 27)
  have hQ := heap_alloc_new w1 (.cells #[.slice (some ⟨b1, o1, none⟩) 2 c, .slice b d.length e] 27)
  have hz : (w1.alloc (.cells #[.slice (some ⟨b1, o1, none⟩) 2 c, .slice b d.length e] 27)).heap.size = w1.heap.size + 1 := by simp only [World.alloc, Array.size_push]
  rw [← hw] at bW hQ hz
  have H2 : Hid (w2.heap.size = w.heap.size + 4 ∧ w1.heap.size = w.heap.size + 3) := ⟨by omega, n3s⟩
  have S2 : Hid (w2.heap[w.heap.size]? = some (.cells #[.pointer (some ⟨g, 0, none⟩)] 94 (0, 0)) ∧ w2.heap[w.heap.size + 1 + 1]? = some (.cells #[.int .i64 2] 3 (0, 0))) := ⟨(bW.block _ (lt_of_heapA n3a)).trans n3a, (bW.block _ (lt_of_heapA n3c)).trans n3c⟩
  have Q2 : Hid (Box w2 w1.heap.size (.slice (some ⟨b1, o1, none⟩) 2 c) (.slice b d.length e) 27) := hQ
  have B2 : Hid (Below w.heap.size w w2) := bTrans Bw1 bW
  have D2 : Hid (Below w0.heap.size w0 w2) := B0.out.trans (B2.out.mono B0.out.size)
  have G2 : Hid (Sheet w2 g m (.slice none 0 0) t3) := HG.out.keep B2.out
  have hz2 : w2.cell? ⟨b1, o1, none⟩ = some (.int .i64 (cnt : Int)) := by rw [D2.out.cell (p := ⟨b1, o1, none⟩) hb1]; exact h0
  have hb2 : b1 < w2.heap.size := by have := D2.out.size; omega
  clear hw n3a n3b n3c n3s bW hQ hz Bw1
  gi_wp2_with fail
  refine wpIn_rangeFunc_ownH rfl (by decide) (gf := 90) (lb := #[.pointer (some ⟨w1.heap.size, 0, none⟩)]) rfl trivial (enters_of Tryd.func90 (by kernel_rfl) rfl)
    (cut_stops 5 w1.heap.size cnt N 1 b1 o1 c d.length e ct tl b ad cd (by decide) hc hN (by decide) hq hs1 hs2 w2 hb2 Q2.out hz2) keepsBox_t (keepsBox_b (by have := H2.out; omega)) (Below.refl _ _) (fun _ => rfl)
    (fun pre W => ∃ v, Sheet W g m v t3 ∧ NewStr w2.heap.size W v (pre.map (fun k => f k.1)) ∧ Win g (g + 1) w2 W)
    (fun _ _ _ => False)
    ?hI (fun _ _ _ _ _ hs _ _ => hs)
    ⟨_, G2.out, NewStr.nil _ _, Win.refl _ _ _⟩
    (fun x a' W => ∃ Bx, w2.heap.size ≤ Bx ∧ Box W Bx (.slice tl 1 ct) (.slice (ad x.1) N (cd x.1)) 27 ∧ a' = { tmps := #[.pointer (some ⟨g, 0, none⟩), .agg #[.slice (some ⟨b1, o1, none⟩) 2 c, .slice b d.length e], .pointer (some ⟨w.heap.size, 0, none⟩), .pointer (some ⟨w.heap.size + 1, 0, none⟩), .string ⟨#[]⟩, .pointer (some ⟨w.heap.size + 1 + 1, 0, none⟩), .pointer (some ⟨Bx, 0, none⟩), undef, undef, .pointer (some ⟨w.heap.size + 1, 0, none⟩), .slice (some ⟨b1, o1, none⟩) 2 c, .int .i64 2, .int .i64 2, .bool false, undef, undef, undef, undef, undef, undef, undef, .agg #[.slice (some ⟨b1, o1, none⟩) 2 c, .slice b d.length e], .func (.func 90) #[] #[.pointer (some ⟨w1.heap.size, 0, none⟩)], .agg #[.slice tl 1 ct, .slice (ad x.1) N (cd x.1)], undef, undef, undef, undef, undef, undef, undef, undef, undef, undef, undef, undef, undef, undef, undef, undef, undef, undef, undef, undef, undef, undef, undef, undef, undef, undef, undef, undef, undef, undef, undef, undef, undef, undef, undef, undef, undef, undef], defers := [] })
    ?hAx ?assign ?body ?done ?stop
  case hI =>
    rintro pre X Y row ⟨v, hsh, hst, hwn⟩ hg hrow
    have hne : ∀ j, j < w2.heap.size → row ≠ some j := fun j hj e' => by have := (hrow j e').1; omega
    refine ⟨v, ?_, hst.grown hg (fun r' e' e2 => ?_), ?_⟩
    · unfold Sheet at hsh ⊢
      rw [hg.block g (lt_of_heapA hsh) (fun e' => hne g (by have := GL.out; have := H2.out; omega) e'.symm)]
      exact hsh
    · obtain ⟨_, o, ho, hcc⟩ := hrow r' e'
      obtain ⟨_, cs, ty, z, hh⟩ := hst.row r' e2
      rw [hh] at ho; cases ho; cases hcc
    · exact ⟨hg.os.trans hwn.os, hg.tape.trans hwn.tape, hg.output.trans hwn.output, Nat.le_trans hwn.size hg.size, fun j hj hd => by
        rw [hg.block j (Nat.lt_of_lt_of_le hj hwn.size) (fun e' => hne j hj e'.symm)]
        exact hwn.block j hj hd⟩
  case hAx =>
    rintro x a' _ X Y row ⟨Bx, h1, h2, h3⟩ hg hr'
    refine ⟨Bx, h1, ?_, h3⟩
    unfold Box at h2 ⊢
    rw [hg.block Bx (lt_of_heapA h2) (fun e' => ?_)]
    · exact h2
    · obtain ⟨_, o, ho, hcc⟩ := hr' Bx e'.symm; rw [h2] at ho; cases ho; cases hcc
  case assign =>
    rintro l pre x W K ⟨v, hsh, hst, hwn⟩ hK
    gi_wp2
    refine hK _ _ ((KeepsOthers.alloc _ _).from _) (Below.heap_alloc _ _ _ (by have := H2.out; have := hwn.size; omega)) ⟨v, hsh.keep (bAlloc (Below.refl _ _) _), hst.keep (bAlloc (Below.refl _ _) _), ?_⟩ ⟨W.heap.size, hwn.size, box_new W _ _ _, rfl⟩
    have hb := bAlloc (Below.refl W.heap.size W) (.cells #[.slice tl 1 ct, .slice (ad x.1) N (cd x.1)] 27)
    exact ⟨hb.os.trans hwn.os, hb.tape.trans hwn.tape, hb.output.trans hwn.output, Nat.le_trans hwn.size hb.size, fun j hj hd => (hb.block j (Nat.lt_of_lt_of_le hj hwn.size)).trans (hwn.block j hj hd)⟩
  case body =>
    rintro l pre x a' W hl _ ⟨v, hsh, hst, hwn⟩ ⟨Bx, hBx, hX, rfl⟩ hlt
    have y0 := hX.c0
    have y1 := hX.c1
    have sW : W.heap[w.heap.size]? = some (.cells #[.pointer (some ⟨g, 0, none⟩)] 94 (0, 0)) := (hwn.block _ (lt_of_heapA S2.out.1) (by have := GL.out; omega)).trans S2.out.1
    have rW : W.heap[w.heap.size + 1 + 1]? = some (.cells #[.int .i64 2] 3 (0, 0)) := (hwn.block _ (lt_of_heapA S2.out.2) (by have := GL.out; omega)).trans S2.out.2
    have u0 : W.cell? ⟨w.heap.size, 0, none⟩ = some (.pointer (some ⟨g, 0, none⟩)) := cell_at sW rfl
    have DW : Hid (Below w0.heap.size w0 W) := D2.out.trans (hwn.below hng D2.out.size)
    have HSH : Hid (Sheet W g m v t3) := hsh
    gi_wp2_with fail
    refine ⟨trivial, (CallsIn.inRound l (callsIn_wide.2 (HS.out x.1 x.2 W v DW.out HSH.out))).mono ?_⟩
    rintro rr w3 ⟨rfl, hb⟩
    obtain ⟨va, vc, rfl⟩ := hst.slice
    rw [List.length_map] at hst hsh HSH
    have B3 : Hid (Below W.heap.size W w3) := hb
    have N3 : Hid (NewStr w2.heap.size w3 (.slice va pre.length vc) (pre.map (fun k => f k.1))) := by have := hst.keep hb; exact this
    have GW : Hid (w2.heap.size ≤ W.heap.size ∧ W.heap.size ≤ w3.heap.size) := ⟨hwn.size, hb.size⟩
    have n4 : NewStr w2.heap.size w3.drew (.slice va ((pre.map (fun k => f k.1)).length) vc) (pre.map (fun k => f k.1)) := by rw [List.length_map]; exact N3.out.keep ((Below.refl _ _).drew)
    obtain ⟨a5, c5, w5, r5, n5, b5, q5⟩ := growStr (f x.1) n4 (show w2.heap.size ≤ w3.heap.size by have := GW.out; omega) (by rw [List.length_map]; omega)
    rw [List.length_map] at r5 n5 q5
    have R5 : Hid (∀ ty, (Builtin.append_ #[56, 56] ty #[.slice va pre.length vc, .slice (some ⟨w3.heap.size, 0, none⟩) 1 1]).run Tryd.prog (w3.drew.alloc (.cells #[.string (f x.1)] 9)) = .ok (.slice a5 (pre.length + 1) c5) w5) := r5
    have N5 : Hid (NewStr w2.heap.size w5 (.slice a5 (pre.length + 1) c5) (pre.map (fun k => f k.1) ++ [f x.1])) := n5
    have B35 : Hid (Below w2.heap.size w3 w5) := (show Below w2.heap.size w3 w3.drew from (Below.refl _ _).drew).trans b5
    have B25 : Hid (Below w2.heap.size W w5) := (hb.mono hwn.size).trans B35.out
    have G3 : Hid (Sheet w3 g m (.slice va pre.length vc) t3) := hsh.keep hb
    have G5 : Hid (Sheet w5 g m (.slice va pre.length vc) t3) := (B35.out.block g (by have := GL.out; have := H2.out; omega)).trans G3.out
    have SKB : Hid (∀ W', Below w2.heap.size W W' → W'.cell? ⟨w.heap.size, 0, none⟩ = some (.pointer (some ⟨g, 0, none⟩)) ∧ W'.cell? ⟨w.heap.size + 1 + 1, 0, none⟩ = some (.int .i64 2)) := fun W' hb' =>
      ⟨(hb'.cell (p := ⟨w.heap.size, 0, none⟩) (by have := H2.out; show w.heap.size < _; omega)).trans u0, (hb'.cell (p := ⟨w.heap.size + 1 + 1, 0, none⟩) (by have := H2.out; show w.heap.size + 1 + 1 < _; omega)).trans (cell_at rW rfl)⟩
    have S3 := SKB.out w3.drew ((hb.mono hwn.size).drew)
    have SA : ∀ O : Obj, (w3.drew.alloc O).cell? ⟨w.heap.size, 0, none⟩ = some (.pointer (some ⟨g, 0, none⟩)) ∧ (w3.drew.alloc O).cell? ⟨w.heap.size + 1 + 1, 0, none⟩ = some (.int .i64 2) := fun O => SKB.out _ (((hb.mono hwn.size).drew).alloc (by have := GW.out; show w2.heap.size ≤ w3.heap.size; omega) O)
    have S5 := SKB.out w5 B25.out
    have NE : w.heap.size ≠ g ∧ w.heap.size + 1 + 1 ≠ g := ⟨by have := GL.out; omega, by have := GL.out; omega⟩
    have S6 : (w5.setCell ⟨g, 11, none⟩ (.slice a5 (pre.length + 1) c5)).cell? ⟨w.heap.size, 0, none⟩ = some (.pointer (some ⟨g, 0, none⟩)) ∧ (w5.setCell ⟨g, 11, none⟩ (.slice a5 (pre.length + 1) c5)).cell? ⟨w.heap.size + 1 + 1, 0, none⟩ = some (.int .i64 2) := ⟨(World.cell?_of_block (heap_setCell_other _ _ _ _ NE.1)).trans S5.1, (World.cell?_of_block (heap_setCell_other _ _ _ _ NE.2)).trans S5.2⟩
    have v3 : w3.drew.cell? ⟨g, 11, none⟩ = some (.slice va pre.length vc) := cell_at G3.out rfl
    have vA : ∀ O : Obj, (w3.drew.alloc O).cell? ⟨g, 11, none⟩ = some (.slice va pre.length vc) := fun O => ((bAlloc (Below.refl w3.drew.heap.size w3.drew) O).cell (p := ⟨g, 11, none⟩) (lt_of_heapA G3.out)).trans v3
    have vB : ∀ O : Obj, (w3.alloc O).cell? ⟨g, 11, none⟩ = some (.slice va pre.length vc) := fun O => vA O
    have v5 : w5.cell? ⟨g, 11, none⟩ = some (.slice va pre.length vc) := cell_at G5.out rfl
    have f5 : w5.frozen? ⟨g, 11, none⟩ = false := free_at G5.out _
    have LEAF : Hid (KeepsFrom w2.heap.size W (w5.setCell ⟨g, 11, none⟩ (.slice a5 (pre.length + 1) c5)) ∧ KeepsBox w1.heap.size W (w5.setCell ⟨g, 11, none⟩ (.slice a5 (pre.length + 1) c5)) ∧ ∃ v, Sheet (w5.setCell ⟨g, 11, none⟩ (.slice a5 (pre.length + 1) c5)) g m v t3 ∧ NewStr w2.heap.size (w5.setCell ⟨g, 11, none⟩ (.slice a5 (pre.length + 1) c5)) v ((pre ++ [x]).map (fun k => f k.1)) ∧ Win g (g + 1) w2 (w5.setCell ⟨g, 11, none⟩ (.slice a5 (pre.length + 1) c5))) := by
      refine ⟨?_, ?_, _, heap_setCell_same w5 g 11 _ _ _ G5.out, ?_, ?_⟩
      · have k1 : KeepsOthers W w3.drew := keeps_below hb.drew
        have k2 : KeepsOthers (w3.drew.alloc (.cells #[.string (f x.1)] 9)) w5 := KeepsOthers.of_grownBy q5 (fun j o hj ho => by
          obtain ⟨_, cs, ty, z, hh⟩ := n4.row j (by rw [List.length_map]; exact hj)
          have h1 : (w3.drew.alloc (.cells #[.string (f x.1)] 9)).heap[j]? = w3.drew.heap[j]? := Below.heap_alloc _ _ _ (lt_of_heapA hh)
          rw [h1, hh] at ho
          cases ho
          rfl)
        exact (((k1.trans (KeepsOthers.alloc _ _)).trans k2).trans (KeepsOthers.setCell _ _ _)).from _
      · have hq : w1.heap.size < w2.heap.size := by have := H2.out; omega
        show (w5.setCell _ _).heap[w1.heap.size]? = W.heap[w1.heap.size]?
        rw [heap_setCell_other _ _ _ _ (show w1.heap.size ≠ g by have := GL.out; have := H2.out; omega)]
        exact B25.out.block _ hq
      · rw [List.map_append]
        exact N5.out.grown (grown_set w5 g 11 (.slice a5 (pre.length + 1) c5)) (fun r' e' e2 => by
          have h1 := (N5.out.row r' e2).1
          have := GL.out; have := H2.out
          cases e'
          omega)
      · have hw5 : Win g (g + 1) w2 w5 := ⟨B25.out.os.trans hwn.os, B25.out.tape.trans hwn.tape, B25.out.output.trans hwn.output, Nat.le_trans hwn.size B25.out.size, fun j hj hd => (B25.out.block j hj).trans (hwn.block j hj hd)⟩
        exact hw5.trans (win_setCell _ _ _ _)
    clear hb hst hsh hwn HSH r5 n5 b5 q5 n4 y0 y1 sW rW u0
    gi_wp2_with fail
    refine region_in (S := (fun w' => w'.cell? ⟨w.heap.size, 0, none⟩ = some (.pointer (some ⟨g, 0, none⟩)) ∧ w'.cell? ⟨w.heap.size + 1 + 1, 0, none⟩ = some (.int .i64 2))) (fun ⟨_, _, h⟩ => h) (noDefer_spec (by kernel_rfl)) (by kernel_rfl) ?_ (fun hHeld0 => ?_)
    · (try dsimp only); (first | exact S3 | exact SA _ | exact S5 | exact S6)
    refine wpAnyH_take (i := 0) (oi := _) (v := ?_) rfl (by kernel_rfl) (by kernel_rfl) (by kernel_rfl) (fun _ _ _ h => h) (Or.inl ⟨by rfl, ?_⟩) (by assumption) ?_
    rotate_left
    · intro wS hSw; (try dsimp only at hSw); go_simp; (try with_reducible rfl)
    try simp only [Act.put, List.setIfInBounds_toArray, List.set_cons_zero, List.set_cons_succ]
    refine wpAnyH_take (i := 1) (oi := _) (v := ?_) rfl (by kernel_rfl) (by kernel_rfl) (by kernel_rfl) (fun _ _ _ h => h) (Or.inl ⟨by rfl, ?_⟩) (by assumption) ?_
    rotate_left
    · intro wS hSw; (try dsimp only at hSw); go_simp; (try with_reducible rfl)
    try simp only [Act.put, List.setIfInBounds_toArray, List.set_cons_zero, List.set_cons_succ]
    refine wpAnyH_take (i := 2) (oi := _) (v := ?_) rfl (by kernel_rfl) (by kernel_rfl) (by kernel_rfl) (fun _ _ _ h => h) (Or.inl ⟨by rfl, ?_⟩) (by assumption) ?_
    rotate_left
    · intro wS hSw; (try dsimp only at hSw); go_simp; (try with_reducible rfl)
    try simp only [Act.put, List.setIfInBounds_toArray, List.set_cons_zero, List.set_cons_succ]
    refine wpAnyH_take (i := 3) (oi := _) (v := ?_) rfl (by kernel_rfl) (by kernel_rfl) (by kernel_rfl) (fun _ _ _ h => h) (Or.inl ⟨by rfl, ?_⟩) (by assumption) ?_
    rotate_left
    · intro wS hSw; (try dsimp only at hSw); go_simp; (try with_reducible rfl)
    try simp only [Act.put, List.setIfInBounds_toArray, List.set_cons_zero, List.set_cons_succ]
    refine wpAnyH_take (i := 4) (oi := _) (v := ?_) rfl (by kernel_rfl) (by kernel_rfl) (by kernel_rfl) (fun _ _ _ h => h) (Or.inl ⟨by rfl, ?_⟩) (by assumption) ?_
    rotate_left
    · intro wS hSw; (try dsimp only at hSw); go_simp; (try with_reducible rfl)
    try simp only [Act.put, List.setIfInBounds_toArray, List.set_cons_zero, List.set_cons_succ]
    refine wpAnyH_take (i := 5) (oi := _) (v := ?_) rfl (by kernel_rfl) (by kernel_rfl) (by kernel_rfl) (fun _ _ _ h => h) (Or.inl ⟨by rfl, ?_⟩) (by assumption) ?_
    rotate_left
    · intro wS hSw; (try dsimp only at hSw); go_simp; (try with_reducible rfl)
    try simp only [Act.put, List.setIfInBounds_toArray, List.set_cons_zero, List.set_cons_succ]
    refine wpAnyH_take (i := 6) (oi := _) (v := ?_) rfl (by kernel_rfl) (by kernel_rfl) (by kernel_rfl) (fun _ _ _ h => h) (Or.inl ⟨by rfl, ?_⟩) (by assumption) ?_
    rotate_left
    · intro wS hSw; (try dsimp only at hSw); go_simp; (try with_reducible rfl)
    try simp only [Act.put, List.setIfInBounds_toArray, List.set_cons_zero, List.set_cons_succ]
    refine wpAnyH_take (i := 8) (oi := _) (v := ?_) rfl (by kernel_rfl) (by kernel_rfl) (by kernel_rfl) (fun _ _ _ h => h) (Or.inl ⟨by rfl, ?_⟩) (by assumption) ?_
    rotate_left
    · intro wS hSw; (try dsimp only at hSw); go_simp; (try with_reducible rfl)
    try simp only [Act.put, List.setIfInBounds_toArray, List.set_cons_zero, List.set_cons_succ]
    refine wpAnyH_take (i := 11) (oi := _) (v := ?_) rfl (by kernel_rfl) (by kernel_rfl) (by kernel_rfl) (fun _ _ _ h => h) (Or.inl ⟨by rfl, ?_⟩) (by assumption) ?_
    rotate_left
    · intro wS hSw; (try dsimp only at hSw); go_simp; (try with_reducible rfl)
    try simp only [Act.put, List.setIfInBounds_toArray, List.set_cons_zero, List.set_cons_succ]
    refine wpAnyH_take (i := 12) (oi := _) (v := ?_) rfl (by kernel_rfl) (by kernel_rfl) (by kernel_rfl) (fun _ _ _ h => h) (Or.inl ⟨by rfl, ?_⟩) (by assumption) ?_
    rotate_left
    · intro wS hSw; (try dsimp only at hSw); go_simp; (try with_reducible rfl)
    try simp only [Act.put, List.setIfInBounds_toArray, List.set_cons_zero, List.set_cons_succ]
    refine wpAnyH_ready (rs := [7, 9]) (by kernel_rfl) (by simp) ?_
    refine AllReadyH.cons (o := _) rfl (fun K hK => ?_) ?_
    · skip
      go_simp
      refine hK.out _ _ ?_ (fun hHeld1 => ?_)
      · (try dsimp only); (first | exact S3 | exact SA _ | exact S5 | exact S6)
      clear hK K hHeld0
      try simp only [Act.put, List.setIfInBounds_toArray, List.set_cons_zero, List.set_cons_succ]
      refine wpAnyH_ready (rs := [9]) (by kernel_rfl) (by simp) ?_
      refine AllReadyH.cons (o := _) rfl (fun K hK => ?_) AllReadyH.nil
      go_simp
      refine hK.out _ _ ?_ (fun hHeld2 => ?_)
      · (try dsimp only); (first | exact S3 | exact SA _ | exact S5 | exact S6)
      clear hK K hHeld1
      try simp only [Act.put, List.setIfInBounds_toArray, List.set_cons_zero, List.set_cons_succ]
      refine wpAnyH_ready (rs := [10]) (by kernel_rfl) (by simp) ?_
      refine AllReadyH.cons (o := _) rfl (fun K hK => ?_) AllReadyH.nil
      refine step_append_ty (by rfl) (.tmp 34) (.tmp 36) 56 56 (by rfl) _ _ _ (by rfl) (by rfl) (R5.out _) ?_
      refine hK.out _ _ ?_ (fun hHeld3 => ?_)
      · (try dsimp only); (first | exact S3 | exact SA _ | exact S5 | exact S6)
      clear hK K hHeld2
      try simp only [Act.put, List.setIfInBounds_toArray, List.set_cons_zero, List.set_cons_succ]
      refine wpAnyH_ready (rs := [13]) (by kernel_rfl) (by simp) ?_
      refine AllReadyH.cons (o := _) rfl (fun K hK => ?_) AllReadyH.nil
      go_simp
      refine hK.out _ _ ?_ (fun hHeld4 => ?_)
      · (try dsimp only); (first | exact S3 | exact SA _ | exact S5 | exact S6)
      clear hK K hHeld3
      try simp only [Act.put, List.setIfInBounds_toArray, List.set_cons_zero, List.set_cons_succ]
      refine wpAnyH_ready (rs := [14]) (by kernel_rfl) (by simp) ?_
      refine AllReadyH.cons (o := _) rfl (fun K hK => ?_) AllReadyH.nil
      go_simp
      refine hK.out _ _ ?_ (fun hHeld5 => ?_)
      · (try dsimp only); (first | exact S3 | exact SA _ | exact S5 | exact S6)
      clear hK K hHeld4
      try simp only [Act.put, List.setIfInBounds_toArray, List.set_cons_zero, List.set_cons_succ]
      refine wpAnyH_done (by kernel_rfl) ?_ _
      gi_wp2
      exact LEAF.out
    refine AllReadyH.cons (o := _) rfl (fun K hK => ?_) AllReadyH.nil
    go_simp
    refine hK.out _ _ ?_ (fun hHeld6 => ?_)
    · (try dsimp only); (first | exact S3 | exact SA _ | exact S5 | exact S6)
    clear hK K hHeld0
    try simp only [Act.put, List.setIfInBounds_toArray, List.set_cons_zero, List.set_cons_succ]
    refine wpAnyH_ready (rs := [7]) (by kernel_rfl) (by simp) ?_
    refine AllReadyH.cons (o := _) rfl (fun K hK => ?_) AllReadyH.nil
    go_simp
    refine hK.out _ _ ?_ (fun hHeld7 => ?_)
    · (try dsimp only); (first | exact S3 | exact SA _ | exact S5 | exact S6)
    clear hK K hHeld6
    try simp only [Act.put, List.setIfInBounds_toArray, List.set_cons_zero, List.set_cons_succ]
    refine wpAnyH_ready (rs := [10]) (by kernel_rfl) (by simp) ?_
    refine AllReadyH.cons (o := _) rfl (fun K hK => ?_) AllReadyH.nil
    refine step_append_ty (by rfl) (.tmp 34) (.tmp 36) 56 56 (by rfl) _ _ _ (by rfl) (by rfl) (R5.out _) ?_
    refine hK.out _ _ ?_ (fun hHeld8 => ?_)
    · (try dsimp only); (first | exact S3 | exact SA _ | exact S5 | exact S6)
    clear hK K hHeld7
    try simp only [Act.put, List.setIfInBounds_toArray, List.set_cons_zero, List.set_cons_succ]
    refine wpAnyH_ready (rs := [13]) (by kernel_rfl) (by simp) ?_
    refine AllReadyH.cons (o := _) rfl (fun K hK => ?_) AllReadyH.nil
    go_simp
    refine hK.out _ _ ?_ (fun hHeld9 => ?_)
    · (try dsimp only); (first | exact S3 | exact SA _ | exact S5 | exact S6)
    clear hK K hHeld8
    try simp only [Act.put, List.setIfInBounds_toArray, List.set_cons_zero, List.set_cons_succ]
    refine wpAnyH_ready (rs := [14]) (by kernel_rfl) (by simp) ?_
    refine AllReadyH.cons (o := _) rfl (fun K hK => ?_) AllReadyH.nil
    go_simp
    refine hK.out _ _ ?_ (fun hHeld10 => ?_)
    · (try dsimp only); (first | exact S3 | exact SA _ | exact S5 | exact S6)
    clear hK K hHeld9
    try simp only [Act.put, List.setIfInBounds_toArray, List.set_cons_zero, List.set_cons_succ]
    refine wpAnyH_done (by kernel_rfl) ?_ _
    gi_wp2
    exact LEAF.out
  case done =>
    rintro D' zs W hD rfl ⟨v, hsh, hst, hwn⟩ hK
    have sW : W.heap[w.heap.size]? = some (.cells #[.pointer (some ⟨g, 0, none⟩)] 94 (0, 0)) := (hwn.block _ (lt_of_heapA S2.out.1) (by have := GL.out; omega)).trans S2.out.1
    have rW : W.heap[w.heap.size + 1 + 1]? = some (.cells #[.int .i64 2] 3 (0, 0)) := (hwn.block _ (lt_of_heapA S2.out.2) (by have := GL.out; omega)).trans S2.out.2
    have u0 : W.cell? ⟨w.heap.size, 0, none⟩ = some (.pointer (some ⟨g, 0, none⟩)) := cell_at sW rfl
    have u1 : W.cell? ⟨w.heap.size + 1 + 1, 0, none⟩ = some (.int .i64 2) := cell_at rW rfl
    have u2 : W.cell? ⟨g, 11, none⟩ = some v := cell_at hsh rfl
    have u3 : W.cell? ⟨g, 5, none⟩ = some (.string ⟨#[10]⟩) := cell_at hsh rfl
    have UL : Hid (w.heap.size < W.heap.size ∧ w.heap.size + 1 + 1 < W.heap.size ∧ g < W.heap.size) := ⟨lt_of_heapA sW, lt_of_heapA rW, lt_of_heapA hsh⟩
    have SK : Hid (∀ W', Below W.heap.size W W' → W'.cell? ⟨w.heap.size, 0, none⟩ = some (.pointer (some ⟨g, 0, none⟩)) ∧ W'.cell? ⟨w.heap.size + 1 + 1, 0, none⟩ = some (.int .i64 2) ∧ W'.cell? ⟨g, 11, none⟩ = some v ∧ W'.cell? ⟨g, 5, none⟩ = some (.string ⟨#[10]⟩)) := fun W' hb =>
      ⟨(hb.cell (p := ⟨w.heap.size, 0, none⟩) UL.out.1).trans u0, (hb.cell (p := ⟨w.heap.size + 1 + 1, 0, none⟩) UL.out.2.1).trans u1, (hb.cell (p := ⟨g, 11, none⟩) UL.out.2.2).trans u2, (hb.cell (p := ⟨g, 5, none⟩) UL.out.2.2).trans u3⟩
    have CJ : Hid (∀ W', Below W.heap.size W W' → Calls Tryd.prog 56 #[v, .string ⟨#[10]⟩] W' fun e w' => e = .returned (.string (jnS ⟨#[10]⟩ ((List.finRange cnt).map (fun k => f k.1)))) ∧ Below W'.heap.size W' w') := fun W' hb =>
      joinS (hst.keep hb) _ (by decide) (by simp; omega) (fun x hx => by
        simp only [List.mem_map] at hx
        obtain ⟨k, _, rfl⟩ := hx
        exact HF.out k.1 k.2)
    gi_wp2_with fail
    refine wpIn_wide.2 ?_
    go_region_held3 (fun w' => w'.cell? ⟨w.heap.size, 0, none⟩ = some (.pointer (some ⟨g, 0, none⟩)) ∧ w'.cell? ⟨w.heap.size + 1 + 1, 0, none⟩ = some (.int .i64 2) ∧ w'.cell? ⟨g, 11, none⟩ = some v ∧ w'.cell? ⟨g, 5, none⟩ = some (.string ⟨#[10]⟩))
      ((refine SK.out _ ?_; (repeat first | with_reducible exact HB2.out | with_reducible exact Below.refl _ _ | with_reducible refine Below.drew ?_)))
      ((go_at_call 56; refine (CJ.out _ ((Below.refl W.heap.size W).drew)).mono ?_; rintro r w8 ⟨rfl, hb⟩; have HB2 : Hid (Below W.heap.size W w8) := bTrans ((Below.refl W.heap.size W).drew) hb; clear hb))
    all_goals
      have HSH : Hid (Sheet w8 g m v t3) := hsh.keep HB2.out
      have c8 : ∀ j u, (shC m (.slice none 0 0) (.slice none 0 0) v t3)[j]? = some u → w8.drew.cell? ⟨g, j, none⟩ = some u := fun j u h => cell_at HSH.out h
      have z9 : ∀ j, j < 3 → (w8.drew.cell? ⟨g, 9 + j, none⟩).isSome = true := fun j hj => by
        have : j = 0 ∨ j = 1 ∨ j = 2 ∨ j = 3 := by omega
        rcases this with rfl | rfl | rfl | rfl <;> (rw [c8 _ _ rfl]; rfl)
      have RC := fun ty => Lib.run_clear_slice (P := Tryd.prog) w8.drew 98 56 ty (.slice none 0 0) Tryd.underlying98 (fun w => by kernel_rfl) rfl rfl g 9 3 4 (by decide) z9 (fun j _ => free_at HSH.out _)
      have SH9 : Sheet (w8.drew.setCells g 9 (List.replicate 3 (.slice none 0 0))) g m (.slice none 0 0) t3 := by
        have h0 : w8.drew.heap[g]? = some (.cells (shC m (.slice none 0 0) (.slice none 0 0) v t3) 59 (0, 0)) := HSH.out
        have h1 := heap_setCell_same _ g 9 _ _ (.slice none 0 0) h0
        have h2 := heap_setCell_same _ g 10 _ _ (.slice none 0 0) h1
        have h3 := heap_setCell_same _ g 11 _ _ (.slice none 0 0) h2
        exact h3
      have WN : Win g (g + 1) w8.drew (w8.drew.setCells g 9 (List.replicate 3 (.slice none 0 0))) := (((win_setCell _ g 9 _).trans (win_setCell _ g 10 _)).trans (win_setCell _ g 11 _))
      generalize w8.drew.setCells g 9 (List.replicate 3 (.slice none 0 0)) = w9 at *
      have B8 : Hid (Below W.heap.size W w8) := HB2.out
      have W9 : Hid (Win g (g + 1) w2 w9) := by
        have h1 : Win g (g + 1) w2 w8.drew := ⟨(show w8.drew.os = W.os from B8.out.os).trans hwn.os, B8.out.drew.tape.trans hwn.tape, B8.out.drew.output.trans hwn.output, Nat.le_trans hwn.size B8.out.size, fun j hj hd => (B8.out.drew.block j (Nat.lt_of_lt_of_le hj hwn.size)).trans (hwn.block j hj hd)⟩
        exact h1.trans WN
      have K9 : Hid (w9.heap[D']? = some (.deferred (some []))) := by
        have h1 : w8.drew.heap[D']? = some (.deferred (some [])) := (B8.out.drew.block D' (lt_of_heapA hK)).trans hK
        exact (WN.block D' (lt_of_heapA h1) (by have := GL.out; have := H2.out; omega)).trans h1
      have SG9 : Hid (Sheet w9 g m (.slice none 0 0) t3) := SH9
      have RC9 : Hid (∀ ty, (Builtin.clear_ #[98] ty #[.slice (some ⟨g, 9, none⟩) 3 4]).run Tryd.prog w8.drew = .ok (.tuple #[]) w9) := RC
      have s8 := SK.out w8.drew B8.out.drew
      have S8 : w8.drew.cell? ⟨w.heap.size, 0, none⟩ = some (.pointer (some ⟨g, 0, none⟩)) ∧ w8.drew.cell? ⟨w.heap.size + 1 + 1, 0, none⟩ = some (.int .i64 2) := ⟨s8.1, s8.2.1⟩
      have S9 : w9.cell? ⟨w.heap.size, 0, none⟩ = some (.pointer (some ⟨g, 0, none⟩)) ∧ w9.cell? ⟨w.heap.size + 1 + 1, 0, none⟩ = some (.int .i64 2) := ⟨cell_at ((W9.out.block _ (lt_of_heapA S2.out.1) (by have := GL.out; omega)).trans S2.out.1) rfl, cell_at ((W9.out.block _ (lt_of_heapA S2.out.2) (by have := GL.out; omega)).trans S2.out.2) rfl⟩
      have RS := texts_cut3 g
      clear SH9 WN RC z9 c8 HSH s8 hsh hst hwn sW rW u0 u1 u2 u3 SK CJ
      gi_wp2_with fail
      refine wpIn_wide.2 ?_
      go_region_held3 (fun w' => w'.cell? ⟨w.heap.size, 0, none⟩ = some (.pointer (some ⟨g, 0, none⟩)) ∧ w'.cell? ⟨w.heap.size + 1 + 1, 0, none⟩ = some (.int .i64 2))
        ((first | exact S8 | exact S9))
        ((refine step_clear_run (by rfl) (.tmp 60) 98 (by rfl) _ _ (by rfl) (RC9.out _) ?_))
      all_goals
        have F9 : Below w.heap.size w (w9.putObj D' (.deferred none)) := by
          have hd : w2.heap.size ≤ D' := hD
          refine ⟨W9.out.os.trans B2.out.os, W9.out.tape.trans B2.out.tape, W9.out.output.trans B2.out.output, ?_, fun j hj => ?_⟩
          · have h1 := B2.out.size
            have h2 := W9.out.size
            show w.heap.size ≤ (w9.putObj D' (.deferred none)).heap.size
            have : (w9.putObj D' (.deferred none)).heap.size = w9.heap.size := by simp [World.putObj]
            omega
          · have h1 : (w9.putObj D' (.deferred none)).heap[j]? = w9.heap[j]? := World.putObj_heap_other (by have := H2.out; omega)
            show (w9.putObj D' (.deferred none)).heap[j]? = w.heap[j]?
            rw [h1]
            by_cases e : j = g
            · subst e
              exact SG9.out.trans HG.out.symm
            · rw [W9.out.block j (by have := H2.out; omega) (by omega)]
              exact B2.out.block j hj
        gi_wp2
        refine ⟨by simp, .inl ⟨_, _, rfl, run_takeDeferred K9.out, ?_⟩⟩
        exact ⟨_, results_tmp rfl _ _ _, rfl, F9⟩
  case stop =>
    rintro D' c' pre W _ _ h _
    exact h.elim
set_option maxRecDepth 100000 in
set_option maxHeartbeats 4000000 in
theorem text3_walk (cnt N b1 o1 c e ct g m : Nat) (t d : List Int) (tl b : Option Addr) (ad : Nat → Option Addr) (cd : Nat → Nat) (f : Nat → ByteArray) (w0 w : World) (hc : cnt ≤ 300) (hN : N ≤ 300)
    (hq : 0 < cnt → (d.length : Int) / (cnt : Int) = N)
    (hs1 : ∀ W, (Instr.slice 22 (.slice (some ⟨b1, o1, none⟩) (2 + 1) c) (some (.int .i64 1)) (some (.int .i64 (((2 : Nat) : Int) + 1))) (some (.int .i64 (((2 : Nat) : Int) + 1)))).run Tryd.prog W = .ok (.slice tl 2 ct) W)
    (hs2 : ∀ (k M R : Nat) W, k < cnt → k * N = M → (k + 1) * N = R → (Instr.slice 22 (.slice b d.length e) (some (.int .i64 (M : Int))) (some (.int .i64 (R : Int))) (some (.int .i64 (R : Int)))).run Tryd.prog W = .ok (.slice (ad k) N (cd k)) W)
    (hb0 : Below w0.heap.size w0 w) (hng : w0.heap.size ≤ g) (hb1 : b1 < w0.heap.size) (h0 : w0.cell? ⟨b1, o1, none⟩ = some (.int .i64 (cnt : Int)))
    (hg : Sheet w g m (.slice none 0 0) (.slice none 0 0)) (hf : ∀ k, k < cnt → (f k).size ≤ 16777216)
    (hsub : ∀ k, k < cnt → ∀ (W : World) (v : Value), Below w0.heap.size w0 W → Sheet W g m (.slice none 0 0) v → Calls Tryd.prog 35 #[.pointer (some ⟨g, 0, none⟩), .agg #[.slice tl 2 ct, .slice (ad k) N (cd k)]] W fun e w' => e = .returned (.string (f k)) ∧ Below W.heap.size W w') :
    Calls Tryd.prog 35 #[.pointer (some ⟨g, 0, none⟩), .agg #[.slice (some ⟨b1, o1, none⟩) 3 c, .slice b d.length e]] w fun e w' => e = .returned (.string (jnS ⟨#[10, 10]⟩ ((List.finRange cnt).map (fun k => f k.1)))) ∧ Below w.heap.size w w' := by
  have B0 : Hid (Below w0.heap.size w0 w) := hb0
  have HG : Hid (Sheet w g m (.slice none 0 0) (.slice none 0 0)) := hg
  have HS : Hid (∀ k, k < cnt → ∀ (W : World) (v : Value), Below w0.heap.size w0 W → Sheet W g m (.slice none 0 0) v → Calls Tryd.prog 35 #[.pointer (some ⟨g, 0, none⟩), .agg #[.slice tl 2 ct, .slice (ad k) N (cd k)]] W fun e w' => e = .returned (.string (f k)) ∧ Below W.heap.size W w') := hsub
  have HF : Hid (∀ k, k < cnt → (f k).size ≤ 16777216) := hf
  have GL : Hid (g < w.heap.size) := lt_of_heapA hg
  clear hb0 hg hsub hf
  refine (callsIn_wide (n := 6)).1 ?_
  refine callsIn_of_wp_marks Tryd.func35 rfl trivial ?_ rfl
  simp only [Tryd.ntmps35, List.size_toArray, List.length_cons, List.length_nil, Nat.reduceAdd, Nat.reduceSub, Array.replicate_succ, Array.replicate_zero, List.push_toArray, List.append_toArray, List.nil_append, List.cons_append]
  gi_wp2_with fail
  refine ⟨trivial, (cutRows_in _ _ _ _ rfl rfl).mono ?_⟩
  rintro rr w2 ⟨rfl, hw⟩
  have n3 := three_new w (.cells #[.pointer (some ⟨g, 0, none⟩)] 94) (.cells #[.slice (some ⟨b1, o1, none⟩) 3 c, .slice b d.length e] 27) (.cells #[.int .i64 3] 3)
  have Bw1 := bAlloc (bAlloc (bAlloc (Below.refl w.heap.size w) (.cells #[.pointer (some ⟨g, 0, none⟩)] 94)) (.cells #[.slice (some ⟨b1, o1, none⟩) 3 c, .slice b d.length e] 27)) (.cells #[.int .i64 3] 3)
  generalize (((w.alloc (.cells #[.pointer (some ⟨g, 0, none⟩)] 94)).alloc (.cells #[.slice (some ⟨b1, o1, none⟩) 3 c, .slice b d.length e] 27)).alloc (.cells #[.int .i64 3] 3)) = w1 at *
  obtain ⟨n3a, n3b, n3c, n3s⟩ := n3
  have bW := bAlloc (Below.refl w1.heap.size w1) (.cells #[.slice (some ⟨b1, o1, none⟩) 3 c, .slice b d.length e] 27)
  have hQ := heap_alloc_new w1 (.cells #[.slice (some ⟨b1, o1, none⟩) 3 c, .slice b d.length e] 27)
  have hz : (w1.alloc (.cells #[.slice (some ⟨b1, o1, none⟩) 3 c, .slice b d.length e] 27)).heap.size = w1.heap.size + 1 := by simp only [World.alloc, Array.size_push]
  rw [← hw] at bW hQ hz
  have H2 : Hid (w2.heap.size = w.heap.size + 4 ∧ w1.heap.size = w.heap.size + 3) := ⟨by omega, n3s⟩
  have S2 : Hid (w2.heap[w.heap.size]? = some (.cells #[.pointer (some ⟨g, 0, none⟩)] 94 (0, 0)) ∧ w2.heap[w.heap.size + 1 + 1]? = some (.cells #[.int .i64 3] 3 (0, 0))) := ⟨(bW.block _ (lt_of_heapA n3a)).trans n3a, (bW.block _ (lt_of_heapA n3c)).trans n3c⟩
  have Q2 : Hid (Box w2 w1.heap.size (.slice (some ⟨b1, o1, none⟩) 3 c) (.slice b d.length e) 27) := hQ
  have B2 : Hid (Below w.heap.size w w2) := bTrans Bw1 bW
  have D2 : Hid (Below w0.heap.size w0 w2) := B0.out.trans (B2.out.mono B0.out.size)
  have G2 : Hid (Sheet w2 g m (.slice none 0 0) (.slice none 0 0)) := HG.out.keep B2.out
  have hz2 : w2.cell? ⟨b1, o1, none⟩ = some (.int .i64 (cnt : Int)) := by rw [D2.out.cell (p := ⟨b1, o1, none⟩) hb1]; exact h0
  have hb2 : b1 < w2.heap.size := by have := D2.out.size; omega
  clear hw n3a n3b n3c n3s bW hQ hz Bw1
  gi_wp2_with fail
  refine wpIn_rangeFunc_ownH rfl (by decide) (gf := 90) (lb := #[.pointer (some ⟨w1.heap.size, 0, none⟩)]) rfl trivial (enters_of Tryd.func90 (by kernel_rfl) rfl)
    (cut_stops 5 w1.heap.size cnt N 2 b1 o1 c d.length e ct tl b ad cd (by decide) hc hN (by decide) hq hs1 hs2 w2 hb2 Q2.out hz2) keepsBox_t (keepsBox_b (by have := H2.out; omega)) (Below.refl _ _) (fun _ => rfl)
    (fun pre W => ∃ v, Sheet W g m (.slice none 0 0) v ∧ NewStr w2.heap.size W v (pre.map (fun k => f k.1)) ∧ Win g (g + 1) w2 W)
    (fun _ _ _ => False)
    ?hI (fun _ _ _ _ _ hs _ _ => hs)
    ⟨_, G2.out, NewStr.nil _ _, Win.refl _ _ _⟩
    (fun x a' W => ∃ Bx, w2.heap.size ≤ Bx ∧ Box W Bx (.slice tl 2 ct) (.slice (ad x.1) N (cd x.1)) 27 ∧ a' = { tmps := #[.pointer (some ⟨g, 0, none⟩), .agg #[.slice (some ⟨b1, o1, none⟩) 3 c, .slice b d.length e], .pointer (some ⟨w.heap.size, 0, none⟩), .pointer (some ⟨w.heap.size + 1, 0, none⟩), .string ⟨#[]⟩, .pointer (some ⟨w.heap.size + 1 + 1, 0, none⟩), .pointer (some ⟨Bx, 0, none⟩), undef, undef, .pointer (some ⟨w.heap.size + 1, 0, none⟩), .slice (some ⟨b1, o1, none⟩) 3 c, .int .i64 3, .int .i64 3, .bool false, undef, undef, undef, undef, undef, undef, undef, .agg #[.slice (some ⟨b1, o1, none⟩) 3 c, .slice b d.length e], .func (.func 90) #[] #[.pointer (some ⟨w1.heap.size, 0, none⟩)], .agg #[.slice tl 2 ct, .slice (ad x.1) N (cd x.1)], undef, undef, undef, undef, undef, undef, undef, undef, undef, undef, undef, undef, undef, undef, undef, undef, undef, undef, undef, undef, undef, undef, undef, undef, undef, undef, undef, undef, undef, undef, undef, undef, undef, undef, undef, undef, undef, undef], defers := [] })
    ?hAx ?assign ?body ?done ?stop
  case hI =>
    rintro pre X Y row ⟨v, hsh, hst, hwn⟩ hg hrow
    have hne : ∀ j, j < w2.heap.size → row ≠ some j := fun j hj e' => by have := (hrow j e').1; omega
    refine ⟨v, ?_, hst.grown hg (fun r' e' e2 => ?_), ?_⟩
    · unfold Sheet at hsh ⊢
      rw [hg.block g (lt_of_heapA hsh) (fun e' => hne g (by have := GL.out; have := H2.out; omega) e'.symm)]
      exact hsh
    · obtain ⟨_, o, ho, hcc⟩ := hrow r' e'
      obtain ⟨_, cs, ty, z, hh⟩ := hst.row r' e2
      rw [hh] at ho; cases ho; cases hcc
    · exact ⟨hg.os.trans hwn.os, hg.tape.trans hwn.tape, hg.output.trans hwn.output, Nat.le_trans hwn.size hg.size, fun j hj hd => by
        rw [hg.block j (Nat.lt_of_lt_of_le hj hwn.size) (fun e' => hne j hj e'.symm)]
        exact hwn.block j hj hd⟩
  case hAx =>
    rintro x a' _ X Y row ⟨Bx, h1, h2, h3⟩ hg hr'
    refine ⟨Bx, h1, ?_, h3⟩
    unfold Box at h2 ⊢
    rw [hg.block Bx (lt_of_heapA h2) (fun e' => ?_)]
    · exact h2
    · obtain ⟨_, o, ho, hcc⟩ := hr' Bx e'.symm; rw [h2] at ho; cases ho; cases hcc
  case assign =>
    rintro l pre x W K ⟨v, hsh, hst, hwn⟩ hK
    gi_wp2
    refine hK _ _ ((KeepsOthers.alloc _ _).from _) (Below.heap_alloc _ _ _ (by have := H2.out; have := hwn.size; omega)) ⟨v, hsh.keep (bAlloc (Below.refl _ _) _), hst.keep (bAlloc (Below.refl _ _) _), ?_⟩ ⟨W.heap.size, hwn.size, box_new W _ _ _, rfl⟩
    have hb := bAlloc (Below.refl W.heap.size W) (.cells #[.slice tl 2 ct, .slice (ad x.1) N (cd x.1)] 27)
    exact ⟨hb.os.trans hwn.os, hb.tape.trans hwn.tape, hb.output.trans hwn.output, Nat.le_trans hwn.size hb.size, fun j hj hd => (hb.block j (Nat.lt_of_lt_of_le hj hwn.size)).trans (hwn.block j hj hd)⟩
  case body =>
    rintro l pre x a' W hl _ ⟨v, hsh, hst, hwn⟩ ⟨Bx, hBx, hX, rfl⟩ hlt
    have y0 := hX.c0
    have y1 := hX.c1
    have sW : W.heap[w.heap.size]? = some (.cells #[.pointer (some ⟨g, 0, none⟩)] 94 (0, 0)) := (hwn.block _ (lt_of_heapA S2.out.1) (by have := GL.out; omega)).trans S2.out.1
    have rW : W.heap[w.heap.size + 1 + 1]? = some (.cells #[.int .i64 3] 3 (0, 0)) := (hwn.block _ (lt_of_heapA S2.out.2) (by have := GL.out; omega)).trans S2.out.2
    have u0 : W.cell? ⟨w.heap.size, 0, none⟩ = some (.pointer (some ⟨g, 0, none⟩)) := cell_at sW rfl
    have DW : Hid (Below w0.heap.size w0 W) := D2.out.trans (hwn.below hng D2.out.size)
    have HSH : Hid (Sheet W g m (.slice none 0 0) v) := hsh
    gi_wp2_with fail
    refine ⟨trivial, (CallsIn.inRound l (callsIn_wide.2 (HS.out x.1 x.2 W v DW.out HSH.out))).mono ?_⟩
    rintro rr w3 ⟨rfl, hb⟩
    obtain ⟨va, vc, rfl⟩ := hst.slice
    rw [List.length_map] at hst hsh HSH
    have B3 : Hid (Below W.heap.size W w3) := hb
    have N3 : Hid (NewStr w2.heap.size w3 (.slice va pre.length vc) (pre.map (fun k => f k.1))) := by have := hst.keep hb; exact this
    have GW : Hid (w2.heap.size ≤ W.heap.size ∧ W.heap.size ≤ w3.heap.size) := ⟨hwn.size, hb.size⟩
    have n4 : NewStr w2.heap.size w3.drew (.slice va ((pre.map (fun k => f k.1)).length) vc) (pre.map (fun k => f k.1)) := by rw [List.length_map]; exact N3.out.keep ((Below.refl _ _).drew)
    obtain ⟨a5, c5, w5, r5, n5, b5, q5⟩ := growStr (f x.1) n4 (show w2.heap.size ≤ w3.heap.size by have := GW.out; omega) (by rw [List.length_map]; omega)
    rw [List.length_map] at r5 n5 q5
    have R5 : Hid (∀ ty, (Builtin.append_ #[56, 56] ty #[.slice va pre.length vc, .slice (some ⟨w3.heap.size, 0, none⟩) 1 1]).run Tryd.prog (w3.drew.alloc (.cells #[.string (f x.1)] 9)) = .ok (.slice a5 (pre.length + 1) c5) w5) := r5
    have N5 : Hid (NewStr w2.heap.size w5 (.slice a5 (pre.length + 1) c5) (pre.map (fun k => f k.1) ++ [f x.1])) := n5
    have B35 : Hid (Below w2.heap.size w3 w5) := (show Below w2.heap.size w3 w3.drew from (Below.refl _ _).drew).trans b5
    have B25 : Hid (Below w2.heap.size W w5) := (hb.mono hwn.size).trans B35.out
    have G3 : Hid (Sheet w3 g m (.slice none 0 0) (.slice va pre.length vc)) := hsh.keep hb
    have G5 : Hid (Sheet w5 g m (.slice none 0 0) (.slice va pre.length vc)) := (B35.out.block g (by have := GL.out; have := H2.out; omega)).trans G3.out
    have SKB : Hid (∀ W', Below w2.heap.size W W' → W'.cell? ⟨w.heap.size, 0, none⟩ = some (.pointer (some ⟨g, 0, none⟩)) ∧ W'.cell? ⟨w.heap.size + 1 + 1, 0, none⟩ = some (.int .i64 3)) := fun W' hb' =>
      ⟨(hb'.cell (p := ⟨w.heap.size, 0, none⟩) (by have := H2.out; show w.heap.size < _; omega)).trans u0, (hb'.cell (p := ⟨w.heap.size + 1 + 1, 0, none⟩) (by have := H2.out; show w.heap.size + 1 + 1 < _; omega)).trans (cell_at rW rfl)⟩
    have S3 := SKB.out w3.drew ((hb.mono hwn.size).drew)
    have SA : ∀ O : Obj, (w3.drew.alloc O).cell? ⟨w.heap.size, 0, none⟩ = some (.pointer (some ⟨g, 0, none⟩)) ∧ (w3.drew.alloc O).cell? ⟨w.heap.size + 1 + 1, 0, none⟩ = some (.int .i64 3) := fun O => SKB.out _ (((hb.mono hwn.size).drew).alloc (by have := GW.out; show w2.heap.size ≤ w3.heap.size; omega) O)
    have S5 := SKB.out w5 B25.out
    have NE : w.heap.size ≠ g ∧ w.heap.size + 1 + 1 ≠ g := ⟨by have := GL.out; omega, by have := GL.out; omega⟩
    have S6 : (w5.setCell ⟨g, 12, none⟩ (.slice a5 (pre.length + 1) c5)).cell? ⟨w.heap.size, 0, none⟩ = some (.pointer (some ⟨g, 0, none⟩)) ∧ (w5.setCell ⟨g, 12, none⟩ (.slice a5 (pre.length + 1) c5)).cell? ⟨w.heap.size + 1 + 1, 0, none⟩ = some (.int .i64 3) := ⟨(World.cell?_of_block (heap_setCell_other _ _ _ _ NE.1)).trans S5.1, (World.cell?_of_block (heap_setCell_other _ _ _ _ NE.2)).trans S5.2⟩
    have v3 : w3.drew.cell? ⟨g, 12, none⟩ = some (.slice va pre.length vc) := cell_at G3.out rfl
    have vA : ∀ O : Obj, (w3.drew.alloc O).cell? ⟨g, 12, none⟩ = some (.slice va pre.length vc) := fun O => ((bAlloc (Below.refl w3.drew.heap.size w3.drew) O).cell (p := ⟨g, 12, none⟩) (lt_of_heapA G3.out)).trans v3
    have vB : ∀ O : Obj, (w3.alloc O).cell? ⟨g, 12, none⟩ = some (.slice va pre.length vc) := fun O => vA O
    have v5 : w5.cell? ⟨g, 12, none⟩ = some (.slice va pre.length vc) := cell_at G5.out rfl
    have f5 : w5.frozen? ⟨g, 12, none⟩ = false := free_at G5.out _
    have LEAF : Hid (KeepsFrom w2.heap.size W (w5.setCell ⟨g, 12, none⟩ (.slice a5 (pre.length + 1) c5)) ∧ KeepsBox w1.heap.size W (w5.setCell ⟨g, 12, none⟩ (.slice a5 (pre.length + 1) c5)) ∧ ∃ v, Sheet (w5.setCell ⟨g, 12, none⟩ (.slice a5 (pre.length + 1) c5)) g m (.slice none 0 0) v ∧ NewStr w2.heap.size (w5.setCell ⟨g, 12, none⟩ (.slice a5 (pre.length + 1) c5)) v ((pre ++ [x]).map (fun k => f k.1)) ∧ Win g (g + 1) w2 (w5.setCell ⟨g, 12, none⟩ (.slice a5 (pre.length + 1) c5))) := by
      refine ⟨?_, ?_, _, heap_setCell_same w5 g 12 _ _ _ G5.out, ?_, ?_⟩
      · have k1 : KeepsOthers W w3.drew := keeps_below hb.drew
        have k2 : KeepsOthers (w3.drew.alloc (.cells #[.string (f x.1)] 9)) w5 := KeepsOthers.of_grownBy q5 (fun j o hj ho => by
          obtain ⟨_, cs, ty, z, hh⟩ := n4.row j (by rw [List.length_map]; exact hj)
          have h1 : (w3.drew.alloc (.cells #[.string (f x.1)] 9)).heap[j]? = w3.drew.heap[j]? := Below.heap_alloc _ _ _ (lt_of_heapA hh)
          rw [h1, hh] at ho
          cases ho
          rfl)
        exact (((k1.trans (KeepsOthers.alloc _ _)).trans k2).trans (KeepsOthers.setCell _ _ _)).from _
      · have hq : w1.heap.size < w2.heap.size := by have := H2.out; omega
        show (w5.setCell _ _).heap[w1.heap.size]? = W.heap[w1.heap.size]?
        rw [heap_setCell_other _ _ _ _ (show w1.heap.size ≠ g by have := GL.out; have := H2.out; omega)]
        exact B25.out.block _ hq
      · rw [List.map_append]
        exact N5.out.grown (grown_set w5 g 12 (.slice a5 (pre.length + 1) c5)) (fun r' e' e2 => by
          have h1 := (N5.out.row r' e2).1
          have := GL.out; have := H2.out
          cases e'
          omega)
      · have hw5 : Win g (g + 1) w2 w5 := ⟨B25.out.os.trans hwn.os, B25.out.tape.trans hwn.tape, B25.out.output.trans hwn.output, Nat.le_trans hwn.size B25.out.size, fun j hj hd => (B25.out.block j hj).trans (hwn.block j hj hd)⟩
        exact hw5.trans (win_setCell _ _ _ _)
    clear hb hst hsh hwn HSH r5 n5 b5 q5 n4 y0 y1 sW rW u0
    gi_wp2_with fail
    refine region_in (S := (fun w' => w'.cell? ⟨w.heap.size, 0, none⟩ = some (.pointer (some ⟨g, 0, none⟩)) ∧ w'.cell? ⟨w.heap.size + 1 + 1, 0, none⟩ = some (.int .i64 3))) (fun ⟨_, _, h⟩ => h) (noDefer_spec (by kernel_rfl)) (by kernel_rfl) ?_ (fun hHeld0 => ?_)
    · (try dsimp only); (first | exact S3 | exact SA _ | exact S5 | exact S6)
    refine wpAnyH_take (i := 0) (oi := _) (v := ?_) rfl (by kernel_rfl) (by kernel_rfl) (by kernel_rfl) (fun _ _ _ h => h) (Or.inl ⟨by rfl, ?_⟩) (by assumption) ?_
    rotate_left
    · intro wS hSw; (try dsimp only at hSw); go_simp; (try with_reducible rfl)
    try simp only [Act.put, List.setIfInBounds_toArray, List.set_cons_zero, List.set_cons_succ]
    refine wpAnyH_take (i := 1) (oi := _) (v := ?_) rfl (by kernel_rfl) (by kernel_rfl) (by kernel_rfl) (fun _ _ _ h => h) (Or.inl ⟨by rfl, ?_⟩) (by assumption) ?_
    rotate_left
    · intro wS hSw; (try dsimp only at hSw); go_simp; (try with_reducible rfl)
    try simp only [Act.put, List.setIfInBounds_toArray, List.set_cons_zero, List.set_cons_succ]
    refine wpAnyH_take (i := 2) (oi := _) (v := ?_) rfl (by kernel_rfl) (by kernel_rfl) (by kernel_rfl) (fun _ _ _ h => h) (Or.inl ⟨by rfl, ?_⟩) (by assumption) ?_
    rotate_left
    · intro wS hSw; (try dsimp only at hSw); go_simp; (try with_reducible rfl)
    try simp only [Act.put, List.setIfInBounds_toArray, List.set_cons_zero, List.set_cons_succ]
    refine wpAnyH_take (i := 3) (oi := _) (v := ?_) rfl (by kernel_rfl) (by kernel_rfl) (by kernel_rfl) (fun _ _ _ h => h) (Or.inl ⟨by rfl, ?_⟩) (by assumption) ?_
    rotate_left
    · intro wS hSw; (try dsimp only at hSw); go_simp; (try with_reducible rfl)
    try simp only [Act.put, List.setIfInBounds_toArray, List.set_cons_zero, List.set_cons_succ]
    refine wpAnyH_take (i := 4) (oi := _) (v := ?_) rfl (by kernel_rfl) (by kernel_rfl) (by kernel_rfl) (fun _ _ _ h => h) (Or.inl ⟨by rfl, ?_⟩) (by assumption) ?_
    rotate_left
    · intro wS hSw; (try dsimp only at hSw); go_simp; (try with_reducible rfl)
    try simp only [Act.put, List.setIfInBounds_toArray, List.set_cons_zero, List.set_cons_succ]
    refine wpAnyH_take (i := 5) (oi := _) (v := ?_) rfl (by kernel_rfl) (by kernel_rfl) (by kernel_rfl) (fun _ _ _ h => h) (Or.inl ⟨by rfl, ?_⟩) (by assumption) ?_
    rotate_left
    · intro wS hSw; (try dsimp only at hSw); go_simp; (try with_reducible rfl)
    try simp only [Act.put, List.setIfInBounds_toArray, List.set_cons_zero, List.set_cons_succ]
    refine wpAnyH_take (i := 6) (oi := _) (v := ?_) rfl (by kernel_rfl) (by kernel_rfl) (by kernel_rfl) (fun _ _ _ h => h) (Or.inl ⟨by rfl, ?_⟩) (by assumption) ?_
    rotate_left
    · intro wS hSw; (try dsimp only at hSw); go_simp; (try with_reducible rfl)
    try simp only [Act.put, List.setIfInBounds_toArray, List.set_cons_zero, List.set_cons_succ]
    refine wpAnyH_take (i := 8) (oi := _) (v := ?_) rfl (by kernel_rfl) (by kernel_rfl) (by kernel_rfl) (fun _ _ _ h => h) (Or.inl ⟨by rfl, ?_⟩) (by assumption) ?_
    rotate_left
    · intro wS hSw; (try dsimp only at hSw); go_simp; (try with_reducible rfl)
    try simp only [Act.put, List.setIfInBounds_toArray, List.set_cons_zero, List.set_cons_succ]
    refine wpAnyH_take (i := 11) (oi := _) (v := ?_) rfl (by kernel_rfl) (by kernel_rfl) (by kernel_rfl) (fun _ _ _ h => h) (Or.inl ⟨by rfl, ?_⟩) (by assumption) ?_
    rotate_left
    · intro wS hSw; (try dsimp only at hSw); go_simp; (try with_reducible rfl)
    try simp only [Act.put, List.setIfInBounds_toArray, List.set_cons_zero, List.set_cons_succ]
    refine wpAnyH_take (i := 12) (oi := _) (v := ?_) rfl (by kernel_rfl) (by kernel_rfl) (by kernel_rfl) (fun _ _ _ h => h) (Or.inl ⟨by rfl, ?_⟩) (by assumption) ?_
    rotate_left
    · intro wS hSw; (try dsimp only at hSw); go_simp; (try with_reducible rfl)
    try simp only [Act.put, List.setIfInBounds_toArray, List.set_cons_zero, List.set_cons_succ]
    refine wpAnyH_ready (rs := [7, 9]) (by kernel_rfl) (by simp) ?_
    refine AllReadyH.cons (o := _) rfl (fun K hK => ?_) ?_
    · skip
      go_simp
      refine hK.out _ _ ?_ (fun hHeld1 => ?_)
      · (try dsimp only); (first | exact S3 | exact SA _ | exact S5 | exact S6)
      clear hK K hHeld0
      try simp only [Act.put, List.setIfInBounds_toArray, List.set_cons_zero, List.set_cons_succ]
      refine wpAnyH_ready (rs := [9]) (by kernel_rfl) (by simp) ?_
      refine AllReadyH.cons (o := _) rfl (fun K hK => ?_) AllReadyH.nil
      go_simp
      refine hK.out _ _ ?_ (fun hHeld2 => ?_)
      · (try dsimp only); (first | exact S3 | exact SA _ | exact S5 | exact S6)
      clear hK K hHeld1
      try simp only [Act.put, List.setIfInBounds_toArray, List.set_cons_zero, List.set_cons_succ]
      refine wpAnyH_ready (rs := [10]) (by kernel_rfl) (by simp) ?_
      refine AllReadyH.cons (o := _) rfl (fun K hK => ?_) AllReadyH.nil
      refine step_append_ty (by rfl) (.tmp 34) (.tmp 36) 56 56 (by rfl) _ _ _ (by rfl) (by rfl) (R5.out _) ?_
      refine hK.out _ _ ?_ (fun hHeld3 => ?_)
      · (try dsimp only); (first | exact S3 | exact SA _ | exact S5 | exact S6)
      clear hK K hHeld2
      try simp only [Act.put, List.setIfInBounds_toArray, List.set_cons_zero, List.set_cons_succ]
      refine wpAnyH_ready (rs := [13]) (by kernel_rfl) (by simp) ?_
      refine AllReadyH.cons (o := _) rfl (fun K hK => ?_) AllReadyH.nil
      go_simp
      refine hK.out _ _ ?_ (fun hHeld4 => ?_)
      · (try dsimp only); (first | exact S3 | exact SA _ | exact S5 | exact S6)
      clear hK K hHeld3
      try simp only [Act.put, List.setIfInBounds_toArray, List.set_cons_zero, List.set_cons_succ]
      refine wpAnyH_ready (rs := [14]) (by kernel_rfl) (by simp) ?_
      refine AllReadyH.cons (o := _) rfl (fun K hK => ?_) AllReadyH.nil
      go_simp
      refine hK.out _ _ ?_ (fun hHeld5 => ?_)
      · (try dsimp only); (first | exact S3 | exact SA _ | exact S5 | exact S6)
      clear hK K hHeld4
      try simp only [Act.put, List.setIfInBounds_toArray, List.set_cons_zero, List.set_cons_succ]
      refine wpAnyH_done (by kernel_rfl) ?_ _
      gi_wp2
      exact LEAF.out
    refine AllReadyH.cons (o := _) rfl (fun K hK => ?_) AllReadyH.nil
    go_simp
    refine hK.out _ _ ?_ (fun hHeld6 => ?_)
    · (try dsimp only); (first | exact S3 | exact SA _ | exact S5 | exact S6)
    clear hK K hHeld0
    try simp only [Act.put, List.setIfInBounds_toArray, List.set_cons_zero, List.set_cons_succ]
    refine wpAnyH_ready (rs := [7]) (by kernel_rfl) (by simp) ?_
    refine AllReadyH.cons (o := _) rfl (fun K hK => ?_) AllReadyH.nil
    go_simp
    refine hK.out _ _ ?_ (fun hHeld7 => ?_)
    · (try dsimp only); (first | exact S3 | exact SA _ | exact S5 | exact S6)
    clear hK K hHeld6
    try simp only [Act.put, List.setIfInBounds_toArray, List.set_cons_zero, List.set_cons_succ]
    refine wpAnyH_ready (rs := [10]) (by kernel_rfl) (by simp) ?_
    refine AllReadyH.cons (o := _) rfl (fun K hK => ?_) AllReadyH.nil
    refine step_append_ty (by rfl) (.tmp 34) (.tmp 36) 56 56 (by rfl) _ _ _ (by rfl) (by rfl) (R5.out _) ?_
    refine hK.out _ _ ?_ (fun hHeld8 => ?_)
    · (try dsimp only); (first | exact S3 | exact SA _ | exact S5 | exact S6)
    clear hK K hHeld7
    try simp only [Act.put, List.setIfInBounds_toArray, List.set_cons_zero, List.set_cons_succ]
    refine wpAnyH_ready (rs := [13]) (by kernel_rfl) (by simp) ?_
    refine AllReadyH.cons (o := _) rfl (fun K hK => ?_) AllReadyH.nil
    go_simp
    refine hK.out _ _ ?_ (fun hHeld9 => ?_)
    · (try dsimp only); (first | exact S3 | exact SA _ | exact S5 | exact S6)
    clear hK K hHeld8
    try simp only [Act.put, List.setIfInBounds_toArray, List.set_cons_zero, List.set_cons_succ]
    refine wpAnyH_ready (rs := [14]) (by kernel_rfl) (by simp) ?_
    refine AllReadyH.cons (o := _) rfl (fun K hK => ?_) AllReadyH.nil
    go_simp
    refine hK.out _ _ ?_ (fun hHeld10 => ?_)
    · (try dsimp only); (first | exact S3 | exact SA _ | exact S5 | exact S6)
    clear hK K hHeld9
    try simp only [Act.put, List.setIfInBounds_toArray, List.set_cons_zero, List.set_cons_succ]
    refine wpAnyH_done (by kernel_rfl) ?_ _
    gi_wp2
    exact LEAF.out
  case done =>
    rintro D' zs W hD rfl ⟨v, hsh, hst, hwn⟩ hK
    have sW : W.heap[w.heap.size]? = some (.cells #[.pointer (some ⟨g, 0, none⟩)] 94 (0, 0)) := (hwn.block _ (lt_of_heapA S2.out.1) (by have := GL.out; omega)).trans S2.out.1
    have rW : W.heap[w.heap.size + 1 + 1]? = some (.cells #[.int .i64 3] 3 (0, 0)) := (hwn.block _ (lt_of_heapA S2.out.2) (by have := GL.out; omega)).trans S2.out.2
    have u0 : W.cell? ⟨w.heap.size, 0, none⟩ = some (.pointer (some ⟨g, 0, none⟩)) := cell_at sW rfl
    have u1 : W.cell? ⟨w.heap.size + 1 + 1, 0, none⟩ = some (.int .i64 3) := cell_at rW rfl
    have u2 : W.cell? ⟨g, 12, none⟩ = some v := cell_at hsh rfl
    have u3 : W.cell? ⟨g, 7, none⟩ = some (.string ⟨#[10, 10]⟩) := cell_at hsh rfl
    have UL : Hid (w.heap.size < W.heap.size ∧ w.heap.size + 1 + 1 < W.heap.size ∧ g < W.heap.size) := ⟨lt_of_heapA sW, lt_of_heapA rW, lt_of_heapA hsh⟩
    have SK : Hid (∀ W', Below W.heap.size W W' → W'.cell? ⟨w.heap.size, 0, none⟩ = some (.pointer (some ⟨g, 0, none⟩)) ∧ W'.cell? ⟨w.heap.size + 1 + 1, 0, none⟩ = some (.int .i64 3) ∧ W'.cell? ⟨g, 12, none⟩ = some v ∧ W'.cell? ⟨g, 7, none⟩ = some (.string ⟨#[10, 10]⟩)) := fun W' hb =>
      ⟨(hb.cell (p := ⟨w.heap.size, 0, none⟩) UL.out.1).trans u0, (hb.cell (p := ⟨w.heap.size + 1 + 1, 0, none⟩) UL.out.2.1).trans u1, (hb.cell (p := ⟨g, 12, none⟩) UL.out.2.2).trans u2, (hb.cell (p := ⟨g, 7, none⟩) UL.out.2.2).trans u3⟩
    have CJ : Hid (∀ W', Below W.heap.size W W' → Calls Tryd.prog 56 #[v, .string ⟨#[10, 10]⟩] W' fun e w' => e = .returned (.string (jnS ⟨#[10, 10]⟩ ((List.finRange cnt).map (fun k => f k.1)))) ∧ Below W'.heap.size W' w') := fun W' hb =>
      joinS (hst.keep hb) _ (by decide) (by simp; omega) (fun x hx => by
        simp only [List.mem_map] at hx
        obtain ⟨k, _, rfl⟩ := hx
        exact HF.out k.1 k.2)
    gi_wp2_with fail
    refine wpIn_wide.2 ?_
    go_region_held3 (fun w' => w'.cell? ⟨w.heap.size, 0, none⟩ = some (.pointer (some ⟨g, 0, none⟩)) ∧ w'.cell? ⟨w.heap.size + 1 + 1, 0, none⟩ = some (.int .i64 3) ∧ w'.cell? ⟨g, 12, none⟩ = some v ∧ w'.cell? ⟨g, 7, none⟩ = some (.string ⟨#[10, 10]⟩))
      ((refine SK.out _ ?_; (repeat first | with_reducible exact HB2.out | with_reducible exact Below.refl _ _ | with_reducible refine Below.drew ?_)))
      ((go_at_call 56; refine (CJ.out _ ((Below.refl W.heap.size W).drew)).mono ?_; rintro r w8 ⟨rfl, hb⟩; have HB2 : Hid (Below W.heap.size W w8) := bTrans ((Below.refl W.heap.size W).drew) hb; clear hb))
    all_goals
      have HSH : Hid (Sheet w8 g m (.slice none 0 0) v) := hsh.keep HB2.out
      have c8 : ∀ j u, (shC m (.slice none 0 0) (.slice none 0 0) (.slice none 0 0) v)[j]? = some u → w8.drew.cell? ⟨g, j, none⟩ = some u := fun j u h => cell_at HSH.out h
      have z9 : ∀ j, j < 4 → (w8.drew.cell? ⟨g, 9 + j, none⟩).isSome = true := fun j hj => by
        have : j = 0 ∨ j = 1 ∨ j = 2 ∨ j = 3 := by omega
        rcases this with rfl | rfl | rfl | rfl <;> (rw [c8 _ _ rfl]; rfl)
      have RC := fun ty => Lib.run_clear_slice (P := Tryd.prog) w8.drew 98 56 ty (.slice none 0 0) Tryd.underlying98 (fun w => by kernel_rfl) rfl rfl g 9 4 4 (by decide) z9 (fun j _ => free_at HSH.out _)
      have SH9 : Sheet (w8.drew.setCells g 9 (List.replicate 4 (.slice none 0 0))) g m (.slice none 0 0) (.slice none 0 0) := by
        have h0 : w8.drew.heap[g]? = some (.cells (shC m (.slice none 0 0) (.slice none 0 0) (.slice none 0 0) v) 59 (0, 0)) := HSH.out
        have h1 := heap_setCell_same _ g 9 _ _ (.slice none 0 0) h0
        have h2 := heap_setCell_same _ g 10 _ _ (.slice none 0 0) h1
        have h3 := heap_setCell_same _ g 11 _ _ (.slice none 0 0) h2
        have h4 := heap_setCell_same _ g 12 _ _ (.slice none 0 0) h3
        exact h4
      have WN : Win g (g + 1) w8.drew (w8.drew.setCells g 9 (List.replicate 4 (.slice none 0 0))) := ((((win_setCell _ g 9 _).trans (win_setCell _ g 10 _)).trans (win_setCell _ g 11 _)).trans (win_setCell _ g 12 _))
      generalize w8.drew.setCells g 9 (List.replicate 4 (.slice none 0 0)) = w9 at *
      have B8 : Hid (Below W.heap.size W w8) := HB2.out
      have W9 : Hid (Win g (g + 1) w2 w9) := by
        have h1 : Win g (g + 1) w2 w8.drew := ⟨(show w8.drew.os = W.os from B8.out.os).trans hwn.os, B8.out.drew.tape.trans hwn.tape, B8.out.drew.output.trans hwn.output, Nat.le_trans hwn.size B8.out.size, fun j hj hd => (B8.out.drew.block j (Nat.lt_of_lt_of_le hj hwn.size)).trans (hwn.block j hj hd)⟩
        exact h1.trans WN
      have K9 : Hid (w9.heap[D']? = some (.deferred (some []))) := by
        have h1 : w8.drew.heap[D']? = some (.deferred (some [])) := (B8.out.drew.block D' (lt_of_heapA hK)).trans hK
        exact (WN.block D' (lt_of_heapA h1) (by have := GL.out; have := H2.out; omega)).trans h1
      have SG9 : Hid (Sheet w9 g m (.slice none 0 0) (.slice none 0 0)) := SH9
      have RC9 : Hid (∀ ty, (Builtin.clear_ #[98] ty #[.slice (some ⟨g, 9, none⟩) 4 4]).run Tryd.prog w8.drew = .ok (.tuple #[]) w9) := RC
      have s8 := SK.out w8.drew B8.out.drew
      have S8 : w8.drew.cell? ⟨w.heap.size, 0, none⟩ = some (.pointer (some ⟨g, 0, none⟩)) ∧ w8.drew.cell? ⟨w.heap.size + 1 + 1, 0, none⟩ = some (.int .i64 3) := ⟨s8.1, s8.2.1⟩
      have S9 : w9.cell? ⟨w.heap.size, 0, none⟩ = some (.pointer (some ⟨g, 0, none⟩)) ∧ w9.cell? ⟨w.heap.size + 1 + 1, 0, none⟩ = some (.int .i64 3) := ⟨cell_at ((W9.out.block _ (lt_of_heapA S2.out.1) (by have := GL.out; omega)).trans S2.out.1) rfl, cell_at ((W9.out.block _ (lt_of_heapA S2.out.2) (by have := GL.out; omega)).trans S2.out.2) rfl⟩
      have RS := texts_cut4 g
      clear SH9 WN RC z9 c8 HSH s8 hsh hst hwn sW rW u0 u1 u2 u3 SK CJ
      gi_wp2_with fail
      refine wpIn_wide.2 ?_
      go_region_held3 (fun w' => w'.cell? ⟨w.heap.size, 0, none⟩ = some (.pointer (some ⟨g, 0, none⟩)) ∧ w'.cell? ⟨w.heap.size + 1 + 1, 0, none⟩ = some (.int .i64 3))
        ((first | exact S8 | exact S9))
        ((refine step_clear_run (by rfl) (.tmp 60) 98 (by rfl) _ _ (by rfl) (RC9.out _) ?_))
      all_goals
        have F9 : Below w.heap.size w (w9.putObj D' (.deferred none)) := by
          have hd : w2.heap.size ≤ D' := hD
          refine ⟨W9.out.os.trans B2.out.os, W9.out.tape.trans B2.out.tape, W9.out.output.trans B2.out.output, ?_, fun j hj => ?_⟩
          · have h1 := B2.out.size
            have h2 := W9.out.size
            show w.heap.size ≤ (w9.putObj D' (.deferred none)).heap.size
            have : (w9.putObj D' (.deferred none)).heap.size = w9.heap.size := by simp [World.putObj]
            omega
          · have h1 : (w9.putObj D' (.deferred none)).heap[j]? = w9.heap[j]? := World.putObj_heap_other (by have := H2.out; omega)
            show (w9.putObj D' (.deferred none)).heap[j]? = w.heap[j]?
            rw [h1]
            by_cases e : j = g
            · subst e
              exact SG9.out.trans HG.out.symm
            · rw [W9.out.block j (by have := H2.out; omega) (by omega)]
              exact B2.out.block j hj
        gi_wp2
        refine ⟨by simp, .inl ⟨_, _, rfl, run_takeDeferred K9.out, ?_⟩⟩
        exact ⟨_, results_tmp rfl _ _ _, rfl, F9⟩
  case stop =>
    rintro D' c' pre W _ _ h _
    exact h.elim
end Go.Proofs.YtcaidhmolnnikaaDoor
