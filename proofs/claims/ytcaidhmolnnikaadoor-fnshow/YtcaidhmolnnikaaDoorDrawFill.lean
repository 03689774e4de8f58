/-
  Walks: the specification's draws of arrays (l3Fill, l3DrawRight, l3Draw).
-/
import Derived.Test.YtcaidhmolnnikaaDoorDrawArr
import Derived.Test.YtcaidhmolnnikaaDoorSpecShape
import Derived.Test.YtcaidhmolnnikaaDoorAppend
import Derived.Test.YtcaidhmolnnikaaDoorLaw3
import Derived.Deep.AppendLies
import Derived.Deep.RegionLaw
namespace Go.Proofs.YtcaidhmolnnikaaDoor
open Go.RowKit
set_option linter.unusedVariables false
set_option linter.unusedSimpArgs false
theorem But.setNew {g q : Nat} {a w : World} (h : But g a w) (hq : a.heap.size ≤ q) (o : Nat) (u : Value) : But g a (w.setCell ⟨q, o, none⟩ u) :=
  ⟨h.os, h.tape, h.output, by rw [size_setCell]; exact h.size, fun k hk hn => (Below.heap_setCell _ _ _ _ (by show k ≠ q; omega)).trans (h.block k hk hn)⟩
theorem But.of {g : Nat} {a w : World} (h : Below a.heap.size a w) : But g a w := ⟨h.os, h.tape, h.output, h.size, fun k hk _ => h.block k hk⟩
/-- Behind what keeps all that was there once but block g. -/
theorem But.on {g : Nat} {a b c : World} (h : But g a b) (k : But g b c) : But g a c := h.trans k
theorem boxBut {w w' : World} {g q : Nat} {x y : Value} {t : TypeId} (h : Box w q x y t) (hb : But g w w') (hq : q ≠ g) : Box w' q x y t := by
  unfold Box at *; rw [hb.block q (lt_of_heapA h) hq]; exact h
theorem boxGrown {w w' : World} {q : Nat} {x y : Value} {t : TypeId} {row : Option Nat} (h : Box w q x y t) (hg : w.grownBy w' row) (hr : ∀ k, row = some k → q < k) : Box w' q x y t := by
  unfold Box at *; rw [hg.block q (lt_of_heapA h) (fun e => by have := hr q e.symm; omega)]; exact h
theorem boxSet1 {w : World} {q : Nat} {x y : Value} {t : TypeId} (h : Box w q x y t) (y' : Value) : Box (w.setCell ⟨q, 1, none⟩ y') q x y' t := by
  have := heap_setCell_same w q 1 _ _ y' h
  unfold Box; simpa using this
theorem Piece.but {B C G : Nat} {w w' : World} {u : Value} {m : List Int} (h : Piece B C w u m) (hb : But G w w') (hd : G < B ∨ C ≤ G) : Piece B C w' u m := by
  obtain ⟨a, c, rfl, hle, h⟩ := h
  refine ⟨a, c, rfl, hle, ?_⟩
  rcases h with rfl | ⟨g, off, cur, t, rfl, h1, h2, hg, r⟩
  · exact .inl rfl
  · exact .inr ⟨g, off, cur, t, rfl, h1, h2, by rw [hb.block g (Array.getElem?_eq_some_iff.1 hg).1 (by omega)]; exact hg, r⟩
theorem DrawOk.but {B g q : Nat} {w w' : World} (h : DrawOk B g w) (hb : But q w w') (hq : g < q) : DrawOk B g w' := by
  have h1 := h.1
  have h2 := h.lt
  refine h.keep ⟨hb.os, hb.tape, hb.output, hb.size, fun k hk => hb.block k (by omega) (by omega)⟩ (hb.block g h2 (by omega))
set_option maxRecDepth 20000 in
set_option maxHeartbeats 4000000 in
theorem fill_draw {B g : Nat} {w : World} {s : List Int} {v : Value} (hd : DrawOk B g w) (hs : Piece (g + 1) w.heap.size w v s) (hl : s.length ≤ 4) :
    Calls Tryd.prog 91 #[.pointer (some ⟨g, 0, none⟩), v] w fun e w' => ∃ x y d M, e = .returned (.agg #[x, y]) ∧ (w.heap.size ≤ M ∧ M ≤ w'.heap.size) ∧ Piece w.heap.size M w' x s ∧ NewInts M w' y d ∧ (d.length : Int) ≤ 300 ∧ But g w w' ∧ DrawOk B g w' := by
  have hi := info_int
  obtain ⟨i0, hq, z1, z2, z3⟩ : ∃ i0, Tryd.prog.info? 3 = some i0 ∧ i0.zero = some (.int .i64 0) ∧ i0.size = 1 ∧ i0.bytes = 8 := by
    cases hq : Tryd.prog.info? 3 with
    | none => rw [hq] at hi; cases hi
    | some i => rw [hq] at hi; simp at hi; exact ⟨i, rfl, hi.1, hi.2.1, hi.2.2⟩
  clear hi
  have HSV : Hid (Piece (g + 1) w.heap.size w v s) := hs
  obtain ⟨a, c, rfl, hsI⟩ := hs.ints
  obtain ⟨zb1, zb2⟩ := sizeV_bd s
  have HSZ : Hid (∀ W, Ints W a s → Calls Tryd.prog 39 #[.slice a s.length c] W fun e w' => e = .returned (.int .i64 (sizeV s)) ∧ w' = W) := fun W h => size_spec c h
  generalize sizeV s = Z at *
  obtain ⟨v, w1, hrun, hp, hb⟩ := append_new ((hsI.alloc (.cells #[.slice none 0 0, .slice none 0 0] 27)).alloc (.cells #[] 3)) (by omega) (w.heap.size + 1) 0 c
  obtain ⟨ax, cx, rfl, _⟩ := hp.ints
  have HRUN : Hid (∀ (ty : TypeId), (Builtin.append_ #[22, 22] ty #[.slice (some ⟨w.heap.size + 1, 0, none⟩) 0 0, .slice a s.length c]).run Tryd.prog ((w.alloc (.cells #[.slice none 0 0, .slice none 0 0] 27)).alloc (.cells #[] 3)) = .ok (.slice ax s.length cx) w1) := hrun
  have HB1 : Hid (Below w.heap.size w w1) := bTrans (bAlloc (bAlloc (Below.refl _ _) _) _) hb
  have HD1 : Hid (DrawOk B g w1) := hd.keep (HB1.out.mono hd.2.1) (HB1.out.block g hd.lt)
  have HP1 : Hid (Piece (w.heap.size + 1) w1.heap.size w1 (.slice ax s.length cx) s) := hp.mono (by simp) (Nat.le_refl _)
  have HR1 : Hid (w1.heap[w.heap.size]? = some (.cells #[.slice none 0 0, .slice none 0 0] 27 (0, 0))) := by
    show _ = _
    rw [hb.block w.heap.size (by simp; omega), heap_alloc_old _ _ (by simp)]
    exact heap_alloc_new w _
  have HS1 : Hid (Piece (g + 1) w.heap.size w1 (.slice a s.length c) s) := HSV.out.keep HB1.out
  have hg := hd.lt
  clear hrun hp hb hs hsI hd
  go_enter Tryd.func91, Tryd.ntmps91
  go_wp2_with (at_builtin; refine wpList_append_run rfl _ _ 22 22 rfl _ _ _ rfl rfl HRUN.out ?_)
  generalize hW : World.alloc w1 (.cells #[.slice ax s.length cx, .slice none 0 0] 27) = W0
  have BW : Hid (Below w1.heap.size w1 W0) := by rw [← hW]; exact bAlloc (Below.refl _ _) _
  have X0 : Hid (Box W0 w1.heap.size (.slice ax s.length cx) (.slice none 0 0) 27) := by rw [← hW]; exact box_new w1 _ _ _
  have LW : Hid (w1.heap.size < W0.heap.size) := X0.out.lt
  have S1 : Hid (w.heap.size < w1.heap.size) := lt_of_heapA HR1.out
  have DW : Hid (DrawOk B g W0) := by rw [← hW]; exact HD1.out.alloc _
  clear hW
  go_loopw [6] (fun i w' => ∃ (k : Nat) (m : List Int) (ad : Option Addr) (cd : Nat), i = .int .i64 k ∧ k ≤ 300 ∧ m.length = k ∧ Box w' w1.heap.size (.slice ax s.length cx) (.slice ad m.length cd) 27 ∧ NewInts (w1.heap.size + 1) w' (.slice ad m.length cd) m ∧ But g w1 w' ∧ DrawOk B g w') (fun i _ => 301 - (intOf i).toNat)
  case atStart => exact ⟨0, [], none, 0, rfl, by omega, rfl, X0.out, ⟨rfl, .inl ⟨rfl, rfl⟩⟩, But.of BW.out, DW.out⟩
  case round =>
    obtain ⟨k, m, ad, cd, rfl, hk, hm, hX, hN, hB, hD⟩ := hrel
    have HX : Hid (Box wr w1.heap.size (.slice ax s.length cx) (.slice ad m.length cd) 27) := hX
    have HN : Hid (NewInts (w1.heap.size + 1) wr (.slice ad m.length cd) m) := hN
    have HB : Hid (But g w1 wr) := hB
    have HD : Hid (DrawOk B g wr) := hD
    have HM : Hid (m.length = k) := hm
    have HI : Hid (Ints wr a s) := by
      obtain ⟨a', c', e', i'⟩ := (HS1.out.but hB (.inl (by omega))).ints
      cases e'
      exact i'
    have p0 := HX.out.c0
    have p1 := HX.out.c1
    have f1 : wr.frozen? ⟨w1.heap.size, 1, none⟩ = false := free_at hX 1
    have hg1 : g < w1.heap.size := by have := S1.out; omega
    clear hX hN hB hD hm
    by_cases hlt : (k : Int) < Z
    · go_wp2_with fail
      refine (HSZ.out _ HI.out).mono ?_
      rintro r w' ⟨rfl, hw⟩
      subst w'
      go_wp2_with fail
      have HK : Hid (k + 1 ≤ maxLen ∧ (m.length + 1) * 8 ≤ 140737488355328 ∧ m.length + 1 ≤ maxLen) := by
        have := HM.out
        refine ⟨?_, ?_, ?_⟩
        · unfold maxLen; omega
        · omega
        · unfold maxLen; omega
      have HDr : Hid (DrawOk B g wr.drew) := HD.out.keep ((Below.refl B wr).drew) rfl
      go_region_law (first
        | (refine step_append_lies _ (by rfl) (.tmp 18) (.tmp 21) 22 (by rfl) (w1.heap.size + 1) 3 i0 (.int .i64 0) 1 8 Tryd.underlying22 hq z1 z2 z3 rfl (by decide) (.slice ad m.length cd) m.length (m.map (Value.int .i64)) (by rfl) (ownsRow_keep N3.out (bAlloc (Below.refl _ _) _)) ⟨w3.heap.size, 0, none⟩ 1 1 [.int .i64 z] (by rfl) rfl (World.news_of_block (cs := #[.int .i64 z]) (heap_alloc_new w3 _)) (by simp [Value.oneCell']) (by decide) HK.out.2.2 HK.out.2.1 (by have := X3.out.lt; simp; omega) (w3.heap.size + 1) (by simp) ?_; intro g4 cap4 w4 hown hgrow hat hlt4; have X4 : Hid (Box w4 w1.heap.size (.slice ax s.length cx) (.slice ad m.length cd) 27) := boxGrown (X3.out.keep (bAlloc (Below.refl _ _) _)) hgrow (fun k e => N3.out.row k e); have N4 : Hid (NewInts (w1.heap.size + 1) w4 (.slice (some ⟨g4, 0, none⟩) (m.length + 1) cap4) (m ++ [z])) := (by show World.ownsRow _ _ _ _ _ _ _; simpa using hown); have B4 : Hid (But g w1 w4) := ((HB.out.trans B3.out).alloc _).grown hgrow (fun k e => by have := N3.out.row k e; omega); have D4 : Hid (DrawOk B g w4) := (D3.out.alloc _).grown hgrow (fun k e => by have := N3.out.row k e; omega); have y1 := X4.out.c1; have yf : w4.frozen? ⟨w1.heap.size, 1, none⟩ = false := free_at X4.out 1; clear hown hgrow hat hlt4)
        | (go_simp; go_at_call 94; refine (num_spec (B := B) (g := g) HDr.out).mono ?_; rintro r w3 ⟨z, rfl, hb3, hd3⟩; have B3 : Hid (But g wr w3) := But.trans ((But.refl g wr).drewN 1) hb3; have D3 : Hid (DrawOk B g w3) := hd3; have X3 : Hid (Box w3 w1.heap.size (.slice ax s.length cx) (.slice ad m.length cd) 27) := boxBut HX.out B3.out (by omega); have x1 := X3.out.c1; have x2 : (w3.alloc (.cells #[.int .i64 z] 3)).cell? ⟨w1.heap.size, 1, none⟩ = some (.slice ad m.length cd) := (X3.out.keep (bAlloc (Below.refl _ _) _)).c1; have xf : w3.frozen? ⟨w1.heap.size, 1, none⟩ = false := free_at X3.out 1; have N3 : Hid (NewInts (w1.heap.size + 1) w3 (.slice ad m.length cd) m) := HN.out.but B3.out (by omega); clear hb3 hd3; go_simp))
      all_goals
        go_wp2
        go_roundw
        case rel =>
          refine ⟨k + 1, m ++ [z], some ⟨g4, 0, none⟩, cap4, by go_num, by omega, by have := HM.out; simp; omega, ?_, ?_, ?_, ?_⟩
          · have := boxSet1 X4.out (.slice (some ⟨g4, 0, none⟩) (m.length + 1) cap4)
            simpa using this
          · have := N4.out.but ((But.refl w1.heap.size w4).setCell 1 (.slice (some ⟨g4, 0, none⟩) (m.length + 1) cap4)) (by omega)
            simpa using this
          · exact B4.out.setNew (Nat.le_refl _) 1 _
          · exact D4.out.but ((But.refl w1.heap.size w4).setCell 1 _) hg1
        case measure => simp [intOf]; omega
    · go_wp2_with fail
      refine (HSZ.out _ HI.out).mono ?_
      rintro r w' ⟨rfl, hw⟩
      subst w'
      have S1' := S1.out
      have hR : wr.heap[w.heap.size]? = some (.cells #[.slice none 0 0, .slice none 0 0] 27 (0, 0)) := by
        rw [HB.out.block w.heap.size S1.out (by omega)]; exact HR1.out
      have k0 : wr.cell? ⟨w.heap.size, 0, none⟩ = some (.slice none 0 0) := cell_at hR rfl
      have k1 : wr.cell? ⟨w.heap.size, 1, none⟩ = some (.slice none 0 0) := cell_at hR rfl
      have f0 : wr.frozen? ⟨w.heap.size, 0, none⟩ = false := free_at hR 0
      have f1 : wr.frozen? ⟨w.heap.size, 1, none⟩ = false := free_at hR 1
      have HR : Hid (((wr.setCell ⟨w.heap.size, 0, none⟩ (.slice ax s.length cx)).setCell ⟨w.heap.size, 1, none⟩ (.slice ad m.length cd)).heap[w.heap.size]? = some (.cells #[.slice ax s.length cx, .slice ad m.length cd] 27 (0, 0))) := arr_stored hR
      clear hR
      go_wp2_with fail
      refine bodyPost_ret (v := .agg #[.slice ax s.length cx, .slice ad m.length cd]) (results_arr rfl _ _ w.heap.size _ _ rfl HR.out) rfl ?_
      have C1 : But w.heap.size wr ((wr.setCell ⟨w.heap.size, 0, none⟩ (.slice ax s.length cx)).setCell ⟨w.heap.size, 1, none⟩ (.slice ad m.length cd)) := ((But.refl _ _).setCell 0 _).setCell 1 _
      refine ⟨_, _, m, w1.heap.size, rfl, ⟨by omega, by have := HB.out.size; simp [size_setCell]; omega⟩, ?_, ?_, by have := HM.out; omega, ?_, ?_⟩
      · exact ((HP1.out.but HB.out (.inl (by omega))).but C1 (.inl (by omega))).mono (by omega) (Nat.le_refl _)
      · exact (HN.out.but C1 (by omega)).mono (by omega)
      · exact ((But.of HB1.out).trans HB.out |>.setNew (Nat.le_refl _) 0 _).setNew (Nat.le_refl _) 1 _
      · exact HD.out.but C1 hg
end Go.Proofs.YtcaidhmolnnikaaDoor
