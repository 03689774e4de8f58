/-
  Several walks, one behind the other: DrawShape, DrawArr, DrawFill, DrawFill2, DrawFill3, DrawTwoA, DrawN, Two11, Two12, Two13, DrawCopy.
-/
import Derived.Test.YthjjjnapcbkhjaaDraw
import Derived.Test.YthjjjnapcbkhjaaOwn
import Derived.Test.YthjjjnapcbkhjaaDrawA
import Derived.Test.YthjjjnapcbkhjaaDraws
import Derived.Test.YthjjjnapcbkhjaaSpecShape
import Derived.Test.YthjjjnapcbkhjaaAppend
import Derived.Test.YthjjjnapcbkhjaaLaw3
import Derived.Deep.AppendLies
import Derived.Deep.RegionLaw
import Derived.Deep.RegionHeld3
import Derived.Test.YthjjjnapcbkhjaaSpecCopy
import Derived.Test.YthjjjnapcbkhjaaSpecPlace
import Derived.Test.YthjjjnapcbkhjaaSpecArr2
import Derived.Test.YthjjjnapcbkhjaaGrow
import Derived.Test.YthjjjnapcbkhjaaZ1
import Derived.Test.YthjjjnapcbkhjaaEachP
import Derived.Test.YthjjjnapcbkhjaaSmall
import Derived.Test.YthjjjnapcbkhjaaSpecMake1
namespace Go.Proofs.Ythjjjnapcbkhjaa
open Go.RowKit
set_option linter.unusedVariables false
theorem DrawOk.grown {B g : Nat} {w w' : World} {row : Option Nat} (h : DrawOk B g w) (hg : w.grownBy w' row) (hr : ∀ k, row = some k → g < k) : DrawOk B g w' :=
  h.keep ((Below.refl B w).grown hg h.2.1 (fun k e => by have := hr k e; have := h.1; omega)) (hg.block g h.lt (fun e => by have := hr g e.symm; omega))
/-- Small numbers. -/
def Near (l : List Int) : Prop := ∀ x ∈ l, -1 ≤ x ∧ x ≤ 301
set_option maxRecDepth 20000 in
set_option maxHeartbeats 2000000 in
theorem right_spec {B g : Nat} {w : World} (hd : DrawOk B g w) :
    Calls Try.prog 101 #[.pointer (some ⟨g, 0, none⟩)] w fun e w' => ∃ v l, e = .returned v ∧ (l.length ≤ 3 ∧ Near l) ∧ NewInts w.heap.size w' v l ∧ But g w w' ∧ DrawOk B g w' := by
  have HD : Hid (DrawOk B g w) := hd
  clear hd
  go_enter Try.func101, Try.ntmps101
  go_wp2_with fail
  refine (below_small HD.out 5 (by decide) (by decide)).mono ?_
  rintro e w1 ⟨x, x1, x2, rfl, hb, hd⟩
  have HB1 : Hid (But g _ w1) := hb
  have HD1 : Hid (DrawOk B g w1) := hd
  clear hb hd
  have hx : x = 0 ∨ x = 1 ∨ x = 2 ∨ x = 3 ∨ x = 4 := by omega
  rcases hx with rfl | rfl | rfl | rfl | rfl
  · go_wp2
    go_ret
    exact ⟨_, [], rfl, ⟨by decide, by intro x h; simp at h⟩, newInts_alloc _ [] HB1.out.size (by decide), HB1.out.alloc _, DrawOk.alloc HD1.out _⟩
  · go_wp2_with fail
    refine (below_small HD1.out 6 (by decide) (by decide)).mono ?_
    rintro e w2 ⟨y, y1, y2, rfl, hb, hd⟩
    have HB2 : Hid (But g _ w2) := hb
    have HD2 : Hid (DrawOk B g w2) := hd
    clear hb hd
    go_wp2
    go_ret
    exact ⟨_, [y], rfl, ⟨by simp, by intro x h; simp at h; omega⟩, newInts_alloc _ [y] (HB1.out.trans HB2.out).size (by simp), (HB1.out.trans HB2.out).alloc _, DrawOk.alloc HD2.out _⟩
  · go_wp2_with fail
    refine (below_small HD1.out 6 (by decide) (by decide)).mono ?_
    rintro e w2 ⟨y, y1, y2, rfl, hb, hd⟩
    have HB2 : Hid (But g _ w2) := hb
    have HD2 : Hid (DrawOk B g w2) := hd
    clear hb hd
    go_wp2
    go_ret
    exact ⟨_, [y], rfl, ⟨by simp, by intro x h; simp at h; omega⟩, newInts_alloc _ [y] (HB1.out.trans HB2.out).size (by simp), (HB1.out.trans HB2.out).alloc _, DrawOk.alloc HD2.out _⟩
  · go_wp2_with fail
    refine (below_small HD1.out 4 (by decide) (by decide)).mono ?_
    rintro e w2 ⟨y, y1, y2, rfl, hb, hd⟩
    have HB2 : Hid (But g _ w2) := hb
    have HD2 : Hid (DrawOk B g w2) := hd
    clear hb hd
    go_wp2_with fail
    refine (below_small HD2.out 3 (by decide) (by decide)).mono ?_
    rintro e w3 ⟨z, z1, z2, rfl, hb, hd⟩
    have HB3 : Hid (But g _ w3) := hb
    have HD3 : Hid (DrawOk B g w3) := hd
    clear hb hd
    go_wp2
    go_ret
    exact ⟨_, [y, 1 + z], rfl, ⟨by simp, by intro x h; simp at h; omega⟩, newInts_alloc _ [y, 1 + z] ((HB1.out.trans HB2.out).trans HB3.out).size (by simp), ((HB1.out.trans HB2.out).trans HB3.out).alloc _, DrawOk.alloc HD3.out _⟩
  · go_wp2_with fail
    refine (below_small HD1.out 3 (by decide) (by decide)).mono ?_
    rintro e w2 ⟨y, y1, y2, rfl, hb, hd⟩
    have HB2 : Hid (But g _ w2) := hb
    have HD2 : Hid (DrawOk B g w2) := hd
    clear hb hd
    go_wp2_with fail
    refine (below_small HD2.out 2 (by decide) (by decide)).mono ?_
    rintro e w3 ⟨z, z1, z2, rfl, hb, hd⟩
    have HB3 : Hid (But g _ w3) := hb
    have HD3 : Hid (DrawOk B g w3) := hd
    clear hb hd
    go_wp2_with fail
    refine (below_small HD3.out 4 (by decide) (by decide)).mono ?_
    rintro e w4 ⟨u, u1, u2, rfl, hb, hd⟩
    have HB4 : Hid (But g _ w4) := hb
    have HD4 : Hid (DrawOk B g w4) := hd
    clear hb hd
    go_wp2
    go_ret
    exact ⟨_, [1 + y, 1 + z, u], rfl, ⟨by simp, by intro x h; simp at h; omega⟩, newInts_alloc _ [1 + y, 1 + z, u] (((HB1.out.trans HB2.out).trans HB3.out).trans HB4.out).size (by simp), (((HB1.out.trans HB2.out).trans HB3.out).trans HB4.out).alloc _, DrawOk.alloc HD4.out _⟩
set_option maxRecDepth 20000 in
set_option maxHeartbeats 4000000 in
theorem shape_draw {B g : Nat} {w : World} (hd : DrawOk B g w) :
    Calls Try.prog 88 #[.pointer (some ⟨g, 0, none⟩)] w fun e w' => ∃ v l, e = .returned v ∧ (l.length ≤ 4 ∧ Near l) ∧ NewInts w.heap.size w' v l ∧ But g w w' ∧ DrawOk B g w' := by
  have HD : Hid (DrawOk B g w) := hd
  have hgw := hd.lt
  clear hd
  have hi := info_int
  obtain ⟨i0, hq, z1, z2, z3⟩ : ∃ i0, Try.prog.info? 3 = some i0 ∧ i0.zero = some (.int .i64 0) ∧ i0.size = 1 ∧ i0.bytes = 8 := by
    cases hq : Try.prog.info? 3 with
    | none => rw [hq] at hi; cases hi
    | some i => rw [hq] at hi; simp at hi; exact ⟨i, rfl, hi.1, hi.2.1, hi.2.2⟩
  clear hi
  go_enter Try.func88, Try.ntmps88
  go_wp2_with fail
  refine (right_spec HD.out).mono ?_
  rintro e w1 ⟨v, l, rfl, ⟨hl, hnear⟩, hn, hb, hd⟩
  have NR : Hid (Near l) := hnear
  clear hnear
  have HN : Hid (NewInts w.heap.size w1 v l) := hn
  have HB1 : Hid (But g w w1) := hb
  have HD1 : Hid (DrawOk B g w1) := hd
  clear hn hb hd
  go_wp2_with fail
  refine (below_small HD1.out 20 (by decide) (by decide)).mono ?_
  rintro e w2 ⟨x, x1, x2, rfl, hb, hd⟩
  have HB2 : Hid (But g _ w2) := hb
  have HD2 : Hid (DrawOk B g w2) := hd
  have hz2 := hd.lt
  clear hb hd
  have HN2 : Hid (NewInts w.heap.size w2 v l) := HN.out.but HB2.out hgw
  have HB12 : Hid (But g w w2) := HB1.out.trans HB2.out
  have hsz := HB12.out.size
  clear HN
  by_cases q0 : x = 0
  · subst q0
    go_wp2_with fail
    refine (pick_spec (B := B) (g := g) (gl := w2.heap.size) (HD2.out.alloc _) 4 4 (by decide) (by decide) (by omega) (by simp) (nums_alloc w2 [(-1 : Int), 0, 300, 301] _) rfl).mono ?_
    rintro e w3 ⟨y, rfl, hb, hd, hm⟩
    have HB3 : Hid (But g _ w3) := hb
    have HD3 : Hid (DrawOk B g w3) := hd
    have hz3 := hd.lt
    clear hb hd
    have HN3 : Hid (NewInts w.heap.size w3 v l) := (HN2.out.but ((But.refl g w2).alloc _) hgw).but HB3.out hgw
    have HB13 : Hid (But g w w3) := (HB12.out.alloc _).trans HB3.out
    have hsz3 := HB13.out.size
    go_wp2_with (at_builtin; refine wpList_append_own _ rfl _ _ 24 rfl w.heap.size 3 i0 (.int .i64 0) 1 8 Try.underlying24 hq z1 z2 z3 rfl (by decide) _ _ _ rfl (World.ownsRow.alloc HN3.out _) ⟨w3.heap.size, 0, none⟩ 1 1 [.int .i64 y] rfl rfl ?c1 ?c2 ?c3 ?c4 ?c5 ?_)
    case c1 =>
      intro j u hj
      match j, hj with
      | 0, hj => simp at hj; subst hj; simp [Addr.add]
    case c2 => intro u hu; simp at hu; subst hu; rfl
    case c3 => unfold maxLen; omega
    case c4 => omega
    case c5 => simp; omega
    intro v' w4 hown hgrow _
    have hrow := HN3.out.row
    have HN4 : Hid (NewInts w.heap.size w4 v' (l ++ [y])) := by
      show World.ownsRow _ _ _ _ _ _ _
      simpa using hown
    have HB4 : Hid (But g w w4) := (HB13.out.alloc _).grown hgrow hrow
    have HD4 : Hid (DrawOk B g w4) := (HD3.out.alloc _).grown hgrow (fun k e => by have := hrow k e; omega)
    clear hown hgrow hrow
    go_wp2
    go_ret
    exact ⟨_, l ++ [y], rfl, ⟨by simp; omega, by intro x h; simp at h hm; rcases h with h | h; exact NR.out x h; omega⟩, HN4.out, HB4.out, HD4.out⟩
  by_cases q1 : x = 1
  · subst q1
    go_wp2
    go_ret
    exact ⟨_, [1, 1, 1, 1], rfl, ⟨by simp, by intro x h; simp at h; omega⟩, newInts_alloc w2 [1, 1, 1, 1] hsz (by simp), HB12.out.alloc _, HD2.out.alloc _⟩
  by_cases q2 : x = 2
  · subst q2
    go_wp2_with fail
    refine (pick_spec (B := B) (g := g) (gl := w2.heap.size) (HD2.out.alloc _) 4 4 (by decide) (by decide) (by omega) (by simp) (nums_alloc w2 [17, 20, 15, 300] _) rfl).mono ?_
    rintro e w3 ⟨y, rfl, hb, hd, hm⟩
    have HB3 : Hid (But g _ w3) := hb
    have HD3 : Hid (DrawOk B g w3) := hd
    have hz3 := hd.lt
    clear hb hd
    go_wp2_with fail
    refine (pick_spec (B := B) (g := g) (gl := w3.heap.size) (HD3.out.alloc _) 4 4 (by decide) (by decide) (by omega) (by simp) (nums_alloc w3 [15, 20, 16, 0] _) rfl).mono ?_
    rintro e w4 ⟨u, rfl, hb, hd, hm2⟩
    have HB4 : Hid (But g _ w4) := hb
    have HD4 : Hid (DrawOk B g w4) := hd
    have hz4 := hd.lt
    clear hb hd
    have HB14 : Hid (But g w w4) := (((HB12.out.alloc _).trans HB3.out).alloc _).trans HB4.out
    have hsz4 := HB14.out.size
    go_wp2
    go_ret
    exact ⟨_, [y, u], rfl, ⟨by simp, by intro x h; simp at h hm hm2; omega⟩, newInts_alloc w4 [y, u] hsz4 (by simp), HB14.out.alloc _, HD4.out.alloc _⟩
  · go_wp2
    go_ret
    exact ⟨_, l, rfl, ⟨by omega, NR.out⟩, HN2.out, HB12.out, HD2.out⟩
end Go.Proofs.Ythjjjnapcbkhjaa
namespace Go.Proofs.Ythjjjnapcbkhjaa
open Go.RowKit
set_option linter.unusedVariables false
set_option linter.unusedSimpArgs false
theorem srcKeep {w w' : World} {a : Option Addr} {len : Nat} (h : Src w.heap.size w a len) (hb : Below w.heap.size w w') : Src w'.heap.size w' a len := by
  obtain ⟨h1, h2⟩ := h.keep hb
  refine ⟨h1, ?_⟩
  rcases h2 with h2 | ⟨b, off, e, hB, hc⟩
  · exact .inl h2
  · exact .inr ⟨b, off, e, Nat.lt_of_lt_of_le hB hb.size, hc⟩
end Go.Proofs.Ythjjjnapcbkhjaa
namespace Go.Proofs.Ythjjjnapcbkhjaa
open Go.RowKit
set_option linter.unusedVariables false
set_option linter.unusedSimpArgs false
theorem But.setNew {g q : Nat} {a w : World} (h : But g a w) (hq : a.heap.size ≤ q) (o : Nat) (u : Value) : But g a (w.setCell ⟨q, o, none⟩ u) :=
  ⟨h.os, h.tape, h.output, by rw [size_setCell]; exact h.size, fun k hk hn => (Below.heap_setCell _ _ _ _ (by show k ≠ q; omega)).trans (h.block k hk hn)⟩
theorem But.of {g : Nat} {a w : World} (h : Below a.heap.size a w) : But g a w := ⟨h.os, h.tape, h.output, h.size, fun k hk _ => h.block k hk⟩
/-- Behind what keeps all that was there once but block g. -/
theorem But.on {g : Nat} {a b c : World} (h : But g a b) (k : But g b c) : But g a c := h.trans k
theorem boxBut {w w' : World} {g q : Nat} {x y : Value} {t : TypeId} (h : Box w q x y t) (hb : But g w w') (hq : q ≠ g) : Box w' q x y t := by
  unfold Box at *; rw [hb.block q (lt_of_heapA h) hq]; exact h
theorem boxGrown {w w' : World} {q : Nat} {x y : Value} {t : TypeId} {row : Option Nat} (h : Box w q x y t) (hg : w.grownBy w' row) (hr : ∀ k, row = some k → q < k) : Box w' q x y t := by
  unfold Box at *; rw [hg.block q (lt_of_heapA h) (fun e => by have := hr q e.symm; omega)]; exact h
theorem boxSet1 {w : World} {q : Nat} {x y : Value} {t : TypeId} (h : Box w q x y t) (y' : Value) : Box (w.setCell ⟨q, 1, none⟩ y') q x y' t := by
  have := heap_setCell_same w q 1 _ _ y' h
  unfold Box; simpa using this
theorem Piece.but {B C G : Nat} {w w' : World} {u : Value} {m : List Int} (h : Piece B C w u m) (hb : But G w w') (hd : G < B ∨ C ≤ G) : Piece B C w' u m := by
  obtain ⟨a, c, rfl, hle, h⟩ := h
  refine ⟨a, c, rfl, hle, ?_⟩
  rcases h with rfl | ⟨g, off, cur, t, rfl, h1, h2, hg, r⟩
  · exact .inl rfl
  · exact .inr ⟨g, off, cur, t, rfl, h1, h2, by rw [hb.block g (Array.getElem?_eq_some_iff.1 hg).1 (by omega)]; exact hg, r⟩
theorem DrawOk.but {B g q : Nat} {w w' : World} (h : DrawOk B g w) (hb : But q w w') (hq : g < q) : DrawOk B g w' := by
  have h1 := h.1
  have h2 := h.lt
  refine h.keep ⟨hb.os, hb.tape, hb.output, hb.size, fun k hk => hb.block k (by omega) (by omega)⟩ (hb.block g h2 (by omega))
set_option maxRecDepth 20000 in
set_option maxHeartbeats 4000000 in
theorem fill_draw {B g : Nat} {w : World} {s : List Int} {v : Value} (hd : DrawOk B g w) (hs : Piece (g + 1) w.heap.size w v s) (hl : s.length ≤ 4) :
    Calls Try.prog 45 #[.pointer (some ⟨g, 0, none⟩), v] w fun e w' => ∃ x y d M, e = .returned (.agg #[x, y]) ∧ (w.heap.size ≤ M ∧ M ≤ w'.heap.size) ∧ Piece w.heap.size M w' x s ∧ NewInts M w' y d ∧ (d.length : Int) ≤ 300 ∧ But g w w' ∧ DrawOk B g w' := by
  have hi := info_int
  obtain ⟨i0, hq, z1, z2, z3⟩ : ∃ i0, Try.prog.info? 3 = some i0 ∧ i0.zero = some (.int .i64 0) ∧ i0.size = 1 ∧ i0.bytes = 8 := by
    cases hq : Try.prog.info? 3 with
    | none => rw [hq] at hi; cases hi
    | some i => rw [hq] at hi; simp at hi; exact ⟨i, rfl, hi.1, hi.2.1, hi.2.2⟩
  clear hi
  have HSV : Hid (Piece (g + 1) w.heap.size w v s) := hs
  obtain ⟨a, c, rfl, hsI⟩ := hs.ints
  obtain ⟨zb1, zb2⟩ := sizeV_bd s
  have HSZ : Hid (∀ W, Ints W a s → Calls Try.prog 79 #[.slice a s.length c] W fun e w' => e = .returned (.int .i64 (sizeV s)) ∧ w' = W) := fun W h => size_spec c h
  generalize sizeV s = Z at *
  obtain ⟨v, w1, hrun, hp, hb⟩ := append_new ((hsI.alloc (.cells #[.slice none 0 0, .slice none 0 0] 26)).alloc (.cells #[] 3)) (by omega) (w.heap.size + 1) 0 c
  obtain ⟨ax, cx, rfl, _⟩ := hp.ints
  have HRUN : Hid (∀ (ty : TypeId), (Builtin.append_ #[24, 24] ty #[.slice (some ⟨w.heap.size + 1, 0, none⟩) 0 0, .slice a s.length c]).run Try.prog ((w.alloc (.cells #[.slice none 0 0, .slice none 0 0] 26)).alloc (.cells #[] 3)) = .ok (.slice ax s.length cx) w1) := hrun
  have HB1 : Hid (Below w.heap.size w w1) := bTrans (bAlloc (bAlloc (Below.refl _ _) _) _) hb
  have HD1 : Hid (DrawOk B g w1) := hd.keep (HB1.out.mono hd.2.1) (HB1.out.block g hd.lt)
  have HP1 : Hid (Piece (w.heap.size + 1) w1.heap.size w1 (.slice ax s.length cx) s) := hp.mono (by simp) (Nat.le_refl _)
  have HR1 : Hid (w1.heap[w.heap.size]? = some (.cells #[.slice none 0 0, .slice none 0 0] 26 (0, 0))) := by
    show _ = _
    rw [hb.block w.heap.size (by simp; omega), heap_alloc_old _ _ (by simp)]
    exact heap_alloc_new w _
  have HS1 : Hid (Piece (g + 1) w.heap.size w1 (.slice a s.length c) s) := HSV.out.keep HB1.out
  have hg := hd.lt
  clear hrun hp hb hs hsI hd
  go_enter Try.func45, Try.ntmps45
  go_wp2_with (at_builtin; refine wpList_append_run rfl _ _ 24 24 rfl _ _ _ rfl rfl HRUN.out ?_)
  generalize hW : World.alloc w1 (.cells #[.slice ax s.length cx, .slice none 0 0] 26) = W0
  have BW : Hid (Below w1.heap.size w1 W0) := by rw [← hW]; exact bAlloc (Below.refl _ _) _
  have X0 : Hid (Box W0 w1.heap.size (.slice ax s.length cx) (.slice none 0 0) 26) := by rw [← hW]; exact box_new w1 _ _ _
  have LW : Hid (w1.heap.size < W0.heap.size) := X0.out.lt
  have S1 : Hid (w.heap.size < w1.heap.size) := lt_of_heapA HR1.out
  have DW : Hid (DrawOk B g W0) := by rw [← hW]; exact HD1.out.alloc _
  clear hW
  go_loopw [6] (fun i w' => ∃ (k : Nat) (m : List Int) (ad : Option Addr) (cd : Nat), i = .int .i64 k ∧ k ≤ 300 ∧ m.length = k ∧ Box w' w1.heap.size (.slice ax s.length cx) (.slice ad m.length cd) 26 ∧ NewInts (w1.heap.size + 1) w' (.slice ad m.length cd) m ∧ But g w1 w' ∧ DrawOk B g w') (fun i _ => 301 - (intOf i).toNat)
  case atStart => exact ⟨0, [], none, 0, rfl, by omega, rfl, X0.out, ⟨rfl, .inl ⟨rfl, rfl⟩⟩, But.of BW.out, DW.out⟩
  case round =>
    obtain ⟨k, m, ad, cd, rfl, hk, hm, hX, hN, hB, hD⟩ := hrel
    have HX : Hid (Box wr w1.heap.size (.slice ax s.length cx) (.slice ad m.length cd) 26) := hX
    have HN : Hid (NewInts (w1.heap.size + 1) wr (.slice ad m.length cd) m) := hN
    have HB : Hid (But g w1 wr) := hB
    have HD : Hid (DrawOk B g wr) := hD
    have HM : Hid (m.length = k) := hm
    have HI : Hid (Ints wr a s) := by
      obtain ⟨a', c', e', i'⟩ := (HS1.out.but hB (.inl (by omega))).ints
      cases e'
      exact i'
    have p0 := HX.out.c0
    have p1 := HX.out.c1
    have f1 : wr.frozen? ⟨w1.heap.size, 1, none⟩ = false := free_at hX 1
    have hg1 : g < w1.heap.size := by have := S1.out; omega
    clear hX hN hB hD hm
    by_cases hlt : (k : Int) < Z
    · go_wp2_with fail
      refine (HSZ.out _ HI.out).mono ?_
      rintro r w' ⟨rfl, hw⟩
      subst w'
      go_wp2_with fail
      have HK : Hid (k + 1 ≤ maxLen ∧ (m.length + 1) * 8 ≤ 140737488355328 ∧ m.length + 1 ≤ maxLen) := by
        have := HM.out
        refine ⟨?_, ?_, ?_⟩
        · unfold maxLen; omega
        · omega
        · unfold maxLen; omega
      have HDr : Hid (DrawOk B g wr.drew) := HD.out.keep ((Below.refl B wr).drew) rfl
      go_region_law (first
        | (refine step_append_lies _ (by rfl) (.tmp 18) (.tmp 21) 24 (by rfl) (w1.heap.size + 1) 3 i0 (.int .i64 0) 1 8 Try.underlying24 hq z1 z2 z3 rfl (by decide) (.slice ad m.length cd) m.length (m.map (Value.int .i64)) (by rfl) (ownsRow_keep N3.out (bAlloc (Below.refl _ _) _)) ⟨w3.heap.size, 0, none⟩ 1 1 [.int .i64 z] (by rfl) rfl (World.news_of_block (cs := #[.int .i64 z]) (heap_alloc_new w3 _)) (by simp [Value.oneCell']) (by decide) HK.out.2.2 HK.out.2.1 (by have := X3.out.lt; simp; omega) (w3.heap.size + 1) (by simp) ?_; intro g4 cap4 w4 hown hgrow hat hlt4; have X4 : Hid (Box w4 w1.heap.size (.slice ax s.length cx) (.slice ad m.length cd) 26) := boxGrown (X3.out.keep (bAlloc (Below.refl _ _) _)) hgrow (fun k e => N3.out.row k e); have N4 : Hid (NewInts (w1.heap.size + 1) w4 (.slice (some ⟨g4, 0, none⟩) (m.length + 1) cap4) (m ++ [z])) := (by show World.ownsRow _ _ _ _ _ _ _; simpa using hown); have B4 : Hid (But g w1 w4) := ((HB.out.trans B3.out).alloc _).grown hgrow (fun k e => by have := N3.out.row k e; omega); have D4 : Hid (DrawOk B g w4) := (D3.out.alloc _).grown hgrow (fun k e => by have := N3.out.row k e; omega); have y1 := X4.out.c1; have yf : w4.frozen? ⟨w1.heap.size, 1, none⟩ = false := free_at X4.out 1; clear hown hgrow hat hlt4)
        | (go_simp; go_at_call 90; refine (num_spec (B := B) (g := g) HDr.out).mono ?_; rintro r w3 ⟨z, rfl, hb3, hd3⟩; have B3 : Hid (But g wr w3) := But.trans ((But.refl g wr).drewN 1) hb3; have D3 : Hid (DrawOk B g w3) := hd3; have X3 : Hid (Box w3 w1.heap.size (.slice ax s.length cx) (.slice ad m.length cd) 26) := boxBut HX.out B3.out (by omega); have x1 := X3.out.c1; have x2 : (w3.alloc (.cells #[.int .i64 z] 3)).cell? ⟨w1.heap.size, 1, none⟩ = some (.slice ad m.length cd) := (X3.out.keep (bAlloc (Below.refl _ _) _)).c1; have xf : w3.frozen? ⟨w1.heap.size, 1, none⟩ = false := free_at X3.out 1; have N3 : Hid (NewInts (w1.heap.size + 1) w3 (.slice ad m.length cd) m) := HN.out.but B3.out (by omega); clear hb3 hd3; go_simp))
      all_goals
        go_wp2
        go_roundw
        case rel =>
          refine ⟨k + 1, m ++ [z], some ⟨g4, 0, none⟩, cap4, by go_num, by omega, by have := HM.out; simp; omega, ?_, ?_, ?_, ?_⟩
          · have := boxSet1 X4.out (.slice (some ⟨g4, 0, none⟩) (m.length + 1) cap4)
            simpa using this
          · have := N4.out.but ((But.refl w1.heap.size w4).setCell 1 (.slice (some ⟨g4, 0, none⟩) (m.length + 1) cap4)) (by omega)
            simpa using this
          · exact B4.out.setNew (Nat.le_refl _) 1 _
          · exact D4.out.but ((But.refl w1.heap.size w4).setCell 1 _) hg1
        case measure => simp [intOf]; omega
    · go_wp2_with fail
      refine (HSZ.out _ HI.out).mono ?_
      rintro r w' ⟨rfl, hw⟩
      subst w'
      have S1' := S1.out
      have hR : wr.heap[w.heap.size]? = some (.cells #[.slice none 0 0, .slice none 0 0] 26 (0, 0)) := by
        rw [HB.out.block w.heap.size S1.out (by omega)]; exact HR1.out
      have k0 : wr.cell? ⟨w.heap.size, 0, none⟩ = some (.slice none 0 0) := cell_at hR rfl
      have k1 : wr.cell? ⟨w.heap.size, 1, none⟩ = some (.slice none 0 0) := cell_at hR rfl
      have f0 : wr.frozen? ⟨w.heap.size, 0, none⟩ = false := free_at hR 0
      have f1 : wr.frozen? ⟨w.heap.size, 1, none⟩ = false := free_at hR 1
      have HR : Hid (((wr.setCell ⟨w.heap.size, 0, none⟩ (.slice ax s.length cx)).setCell ⟨w.heap.size, 1, none⟩ (.slice ad m.length cd)).heap[w.heap.size]? = some (.cells #[.slice ax s.length cx, .slice ad m.length cd] 26 (0, 0))) := arr_stored hR
      clear hR
      go_wp2_with fail
      refine bodyPost_ret (v := .agg #[.slice ax s.length cx, .slice ad m.length cd]) (results_arr rfl _ _ w.heap.size _ _ rfl HR.out) rfl ?_
      have C1 : But w.heap.size wr ((wr.setCell ⟨w.heap.size, 0, none⟩ (.slice ax s.length cx)).setCell ⟨w.heap.size, 1, none⟩ (.slice ad m.length cd)) := ((But.refl _ _).setCell 0 _).setCell 1 _
      refine ⟨_, _, m, w1.heap.size, rfl, ⟨by omega, by have := HB.out.size; simp [size_setCell]; omega⟩, ?_, ?_, by have := HM.out; omega, ?_, ?_⟩
      · exact ((HP1.out.but HB.out (.inl (by omega))).but C1 (.inl (by omega))).mono (by omega) (Nat.le_refl _)
      · exact (HN.out.but C1 (by omega)).mono (by omega)
      · exact ((But.of HB1.out).trans HB.out |>.setNew (Nat.le_refl _) 0 _).setNew (Nat.le_refl _) 1 _
      · exact HD.out.but C1 hg
end Go.Proofs.Ythjjjnapcbkhjaa
namespace Go.Proofs.Ythjjjnapcbkhjaa
open Go.RowKit
set_option linter.unusedVariables false
set_option linter.unusedSimpArgs false
set_option maxHeartbeats 2000000 in
/-- A number from 0 up to below n is drawn. -/
theorem below_any {B g : Nat} {w : World} (hd : DrawOk B g w) (n : Int) (n0 : 0 < n) :
    Calls Try.prog 38 #[.pointer (some ⟨g, 0, none⟩), .int .i64 n] w fun e w' => ∃ x : Int, 0 ≤ x ∧ x < n ∧ e = .returned (.int .i64 x) ∧ But g w w' ∧ DrawOk B g w' := by
  by_cases n1 : n ≤ 256
  · exact below_small hd n n0 n1
  have HD : Hid (DrawOk B g w) := hd
  clear hd
  have hn : ¬ n ≤ 0 := by omega
  go_enter Try.func38, Try.ntmps38
  go_wp2_with fail
  refine (byte_spec HD.out).mono ?_
  rintro e w1 ⟨x, x1, x2, rfl, hb, hd'⟩
  have HB1 : Hid (But g w w1) := hb
  have HD1 : Hid (DrawOk B g w1) := hd'
  clear hb hd'
  go_wp2_with fail
  refine (byte_spec HD1.out).mono ?_
  rintro e w2 ⟨y, y1, y2, rfl, hb, hd'⟩
  have HB2 : Hid (But g w w2) := HB1.out.trans hb
  have HD2 : Hid (DrawOk B g w2) := hd'
  clear hb hd'
  go_wp2_with fail
  refine (byte_spec HD2.out).mono ?_
  rintro e w3 ⟨z, z1, z2, rfl, hb, hd'⟩
  have HB3 : Hid (But g w w3) := HB2.out.trans hb
  have HD3 : Hid (DrawOk B g w3) := hd'
  clear hb hd'
  go_wp2_with fail
  refine (byte_spec HD3.out).mono ?_
  rintro e w4 ⟨u, u1, u2, rfl, hb, hd'⟩
  have HB4 : Hid (But g w w4) := HB3.out.trans hb
  have HD4 : Hid (DrawOk B g w4) := hd'
  clear hb hd'
  go_wp2
  go_ret
  exact ⟨_, Int.emod_nonneg _ (by omega), Int.emod_lt_of_pos _ n0, rfl, HB4.out, HD4.out⟩
set_option maxRecDepth 20000 in
set_option maxHeartbeats 2000000 in
/-- l3DrawRight. -/
theorem rightA_draw {B g : Nat} {w : World} (hd : DrawOk B g w) :
    Calls Try.prog 87 #[.pointer (some ⟨g, 0, none⟩)] w fun e w' => ∃ x y s d M, e = .returned (.agg #[x, y]) ∧ (w.heap.size < M ∧ M ≤ w'.heap.size) ∧ Piece (w.heap.size + 1) M w' x s ∧ NewInts M w' y d ∧ s.length ≤ 4 ∧ d.length ≤ 300 ∧ But g w w' ∧ DrawOk B g w' := by
  have hg := hd.lt
  have HD : Hid (DrawOk B g (w.alloc (.cells #[.slice none 0 0, .slice none 0 0] 26))) := hd.alloc _
  have HR0 : Hid ((w.alloc (.cells #[.slice none 0 0, .slice none 0 0] 26)).heap[w.heap.size]? = some (.cells #[.slice none 0 0, .slice none 0 0] 26 (0, 0))) := heap_alloc_new w _
  have HB0 : Hid (But g w (w.alloc (.cells #[.slice none 0 0, .slice none 0 0] 26))) := (But.refl g w).alloc _
  clear hd
  go_enter Try.func87, Try.ntmps87
  go_wp2_with fail
  refine (right_spec HD.out).mono ?_
  rintro e w1 ⟨v, s, rfl, ⟨hl, _⟩, hN, hb, hd'⟩
  have hsz := hb.size
  simp at hsz
  have HR1 : Hid (w1.heap[w.heap.size]? = some (.cells #[.slice none 0 0, .slice none 0 0] 26 (0, 0))) := (hb.block w.heap.size (by simp) (by omega)).trans HR0.out
  have HB1 : Hid (But g w w1) := HB0.out.trans hb
  have HD1 : Hid (DrawOk B g w1) := hd'
  have HP : Hid (Piece (g + 1) w1.heap.size w1 v s) := hN.piece.mono (by simp; omega) (Nat.le_refl _)
  clear hb hd' hN
  go_wp2_with fail
  refine (fill_draw HD1.out HP.out (by omega)).mono ?_
  rintro e w2 ⟨x, y, d, M, rfl, ⟨hM, hM2⟩, hP, hN, hdl, hb, hd'⟩
  have hR : w2.heap[w.heap.size]? = some (.cells #[.slice none 0 0, .slice none 0 0] 26 (0, 0)) := (hb.block w.heap.size (by omega) (by omega)).trans HR1.out
  have k0 : w2.cell? ⟨w.heap.size, 0, none⟩ = some (.slice none 0 0) := cell_at hR rfl
  have k1 : w2.cell? ⟨w.heap.size, 1, none⟩ = some (.slice none 0 0) := cell_at hR rfl
  have f0 : w2.frozen? ⟨w.heap.size, 0, none⟩ = false := free_at hR 0
  have f1 : w2.frozen? ⟨w.heap.size, 1, none⟩ = false := free_at hR 1
  have HR : Hid (((w2.setCell ⟨w.heap.size, 0, none⟩ x).setCell ⟨w.heap.size, 1, none⟩ y).heap[w.heap.size]? = some (.cells #[x, y] 26 (0, 0))) := arr_stored hR
  have HP2 : Hid (Piece w1.heap.size M w2 x s) := hP
  have HN2 : Hid (NewInts M w2 y d) := hN
  have HB2 : Hid (But g w w2) := HB1.out.trans hb
  have HD2 : Hid (DrawOk B g w2) := hd'
  obtain ⟨xa, xc, hx, _⟩ := hP.ints
  obtain ⟨ya, yc, hy, _⟩ := hN.ints
  subst hx hy
  clear hR hP hN hb hd'
  go_wp2_with fail
  refine bodyPost_ret (v := .agg #[_, _]) (results_arr rfl _ _ w.heap.size _ _ rfl HR.out) rfl ?_
  have C1 : ∀ x y, But w.heap.size w2 ((w2.setCell ⟨w.heap.size, 0, none⟩ x).setCell ⟨w.heap.size, 1, none⟩ y) := fun x y => ((But.refl _ _).setCell 0 _).setCell 1 _
  refine ⟨_, _, s, d, M, rfl, ⟨by omega, by simp [size_setCell]; omega⟩, ?_, ?_, by omega, by omega, ?_, ?_⟩
  · exact (HP2.out.but (C1 _ _) (.inl (by omega))).mono (by omega) (Nat.le_refl _)
  · exact HN2.out.but (C1 _ _) (by omega)
  · exact (HB2.out.setNew (Nat.le_refl _) 0 _).setNew (Nat.le_refl _) 1 _
  · exact HD2.out.but (C1 _ _) hg
end Go.Proofs.Ythjjjnapcbkhjaa
namespace Go.Proofs.Ythjjjnapcbkhjaa
open Go.RowKit
set_option linter.unusedVariables false
set_option linter.unusedSimpArgs false
theorem boxGrownNe {w w' : World} {q : Nat} {x y : Value} {t : TypeId} {row : Option Nat} (h : Box w q x y t) (hg : w.grownBy w' row) (hr : ∀ k, row = some k → k ≠ q) : Box w' q x y t := by
  unfold Box at *; rw [hg.block q (lt_of_heapA h) (fun e => hr q e.symm rfl)]; exact h
theorem boxSet0 {w : World} {q : Nat} {x y : Value} {t : TypeId} (h : Box w q x y t) (x' : Value) : Box (w.setCell ⟨q, 0, none⟩ x') q x' y t := by
  have := heap_setCell_same w q 0 _ _ x' h
  unfold Box; simpa using this
theorem Piece.grownC {B C : Nat} {w w' : World} {u : Value} {m : List Int} {row : Option Nat} (h : Piece B C w u m) (hg : w.grownBy w' row) (hn : ∀ g, row = Option.some g → C ≤ g) : Piece B C w' u m := by
  obtain ⟨a, c, rfl, hle, h⟩ := h
  refine ⟨a, c, rfl, hle, ?_⟩
  rcases h with rfl | ⟨g, off, cur, t, rfl, h1, h2, hh, r⟩
  · exact .inl rfl
  · exact .inr ⟨g, off, cur, t, rfl, h1, h2, by rw [hg.block g (lt_of_heapA hh) (fun e => by have := hn g e.symm; omega)]; exact hh, r⟩
theorem NewInts.lt {B : Nat} {w : World} {v : Value} {l : List Int} (h : NewInts B w v l) {g : Nat} (hg : v.ownBlock = some g) : g < w.heap.size := by
  obtain ⟨h1, h2⟩ := h
  rcases h2 with ⟨rfl, _⟩ | ⟨g', cap, cur, rfl, hB, hh, _⟩
  · simp [Value.ownBlock] at hg
  · simp [Value.ownBlock] at hg
    subst hg
    exact lt_of_heapA hh
theorem NewInts.butNe {B q p n c : Nat} {w w' : World} {l : List Int} (h : NewInts B w (.slice (some ⟨p, 0, none⟩) n c) l) (hb : But q w w') (hne : p ≠ q) : NewInts B w' (.slice (some ⟨p, 0, none⟩) n c) l := by
  obtain ⟨h1, h2⟩ := h
  refine ⟨h1, ?_⟩
  rcases h2 with ⟨e, h2⟩ | ⟨k, cap, cur, e, hk, hh, r⟩
  · cases e
  · cases e
    exact .inr ⟨_, _, cur, rfl, hk, by rw [hb.block _ (Array.getElem?_eq_some_iff.1 hh).1 hne]; exact hh, r⟩
/-- A number of a piece is written. -/
theorem piece_set {B C k off n c : Nat} {w : World} {l : List Int} (h : Piece B C w (.slice (some ⟨k, off, none⟩) n c) l) (i : Nat) (z : Int) : Piece B C (w.setCell ⟨k, off + i, none⟩ (.int .i64 z)) (.slice (some ⟨k, off, none⟩) n c) (l.set i z) := by
  obtain ⟨a, c', e, hle, h⟩ := h
  cases e
  refine ⟨some ⟨k, off, none⟩, c, by simp, by simpa using hle, ?_⟩
  rcases h with rfl | ⟨g, o, cur, t, e, h1, h2, hh, r⟩
  · exact .inl (by simp)
  · cases e
    refine .inr ⟨k, off, _, t, rfl, h1, h2, heap_setCell_same w k (off + i) _ _ _ hh, fun j hj => ?_⟩
    have hj' : j < l.length := by simpa using hj
    have := r j hj'
    have hsz : off + j < cur.size := (Array.getElem?_eq_some_iff.1 this).1
    by_cases hij : i = j
    · subst hij
      simp [Array.getElem?_setIfInBounds, hsz, List.getD, hj']
    · rw [Array.getElem?_setIfInBounds, if_neg (by omega), this]
      simp [List.getD, List.getElem?_set, hij]
theorem piece_cell {B C k n c : Nat} {w : World} {l : List Int} (h : Piece B C w (.slice (some ⟨k, 0, none⟩) n c) l) {i : Nat} (hi : i < l.length) : w.cell? ⟨k, i, none⟩ = some (.int .i64 (l.getD i 0)) := by
  obtain ⟨a, c', e, hle, h⟩ := h
  cases e
  rcases h with rfl | ⟨g, o, cur, t, e, h1, h2, hh, r⟩
  · simp at hi
  · cases e
    have := r i hi
    rw [Nat.zero_add] at this
    simp only [World.cell?, hh]
    simpa using this
theorem piece_free {B C k n c : Nat} {w : World} {l : List Int} (h : Piece B C w (.slice (some ⟨k, 0, none⟩) n c) l) {i : Nat} (hi : i < l.length) : w.frozen? ⟨k, i, none⟩ = false := by
  obtain ⟨a, c', e, hle, h⟩ := h
  cases e
  rcases h with rfl | ⟨g, o, cur, t, e, h1, h2, hh, r⟩
  · simp at hi
  · cases e
    exact free_at hh i
/-- What the store of the answer leaves. -/
theorem draw_end {B g : Nat} {w W : World} {x y : Value} {s d : List Int} {x0 y0 : Value} (hR : W.heap[w.heap.size]? = some (.cells #[x0, y0] 26 (0, 0))) (hg : g < w.heap.size)
    (px : Piece (w.heap.size + 1) W.heap.size W x s) (py : Piece (w.heap.size + 1) W.heap.size W y d) (ha : Apart x y) (hb : But g w W) (hd : DrawOk B g W) :
    ((W.setCell ⟨w.heap.size, 0, none⟩ x).setCell ⟨w.heap.size, 1, none⟩ y).heap[w.heap.size]? = some (.cells #[x, y] 26 (0, 0)) ∧
    Arr w.heap.size ((W.setCell ⟨w.heap.size, 0, none⟩ x).setCell ⟨w.heap.size, 1, none⟩ y).heap.size ((W.setCell ⟨w.heap.size, 0, none⟩ x).setCell ⟨w.heap.size, 1, none⟩ y) (.agg #[x, y]) s d ∧
    But g w ((W.setCell ⟨w.heap.size, 0, none⟩ x).setCell ⟨w.heap.size, 1, none⟩ y) ∧ DrawOk B g ((W.setCell ⟨w.heap.size, 0, none⟩ x).setCell ⟨w.heap.size, 1, none⟩ y) := by
  have C1 : But w.heap.size W ((W.setCell ⟨w.heap.size, 0, none⟩ x).setCell ⟨w.heap.size, 1, none⟩ y) := ((But.refl _ _).setCell 0 _).setCell 1 _
  refine ⟨arr_stored hR, ⟨x, y, rfl, ?_, ?_, ha⟩, (hb.setNew (Nat.le_refl _) 0 _).setNew (Nat.le_refl _) 1 _, hd.but C1 hg⟩
  · exact (px.but C1 (.inl (by omega))).mono (by omega) C1.size
  · exact (py.but C1 (.inl (by omega))).mono (by omega) C1.size
/-- What l3Draw knows where its switch has ended. -/
structure Drawn (B g : Nat) (w W : World) (q : Nat) (x y : Value) (s d : List Int) : Prop where
  r : W.heap[w.heap.size]? = some (.cells #[.slice none 0 0, .slice none 0 0] 26 (0, 0))
  box : Box W q x y 26
  hg : g < w.heap.size
  px : Piece (w.heap.size + 1) W.heap.size W x s
  py : Piece (w.heap.size + 1) W.heap.size W y d
  ap : Apart x y
  ls : s.length ≤ 4
  ld : d.length ≤ 301
  but : But g w W
  ok : DrawOk B g W
set_option maxRecDepth 20000 in
set_option maxHeartbeats 4000000 in
/-- l3Draw. -/
theorem draw_draw {B g : Nat} {w : World} (hd : DrawOk B g w) :
    Calls Try.prog 44 #[.pointer (some ⟨g, 0, none⟩)] w fun e w' => ∃ v s d, e = .returned v ∧ Arr w.heap.size w'.heap.size w' v s d ∧ s.length ≤ 4 ∧ d.length ≤ 301 ∧ But g w w' ∧ DrawOk B g w' := by
  have hi := info_int
  obtain ⟨i0, hq, z1, z2, z3⟩ : ∃ i0, Try.prog.info? 3 = some i0 ∧ i0.zero = some (.int .i64 0) ∧ i0.size = 1 ∧ i0.bytes = 8 := by
    cases hq : Try.prog.info? 3 with
    | none => rw [hq] at hi; cases hi
    | some i => rw [hq] at hi; simp at hi; exact ⟨i, rfl, hi.1, hi.2.1, hi.2.2⟩
  clear hi
  have hmk0 : ∀ w, (Instr.makeSlice 24 (.int .i64 300) (.int .i64 300)).run Try.prog w = .ok (.slice (some ⟨w.heap.size, 0, none⟩) 300 300) (w.alloc (.cells (vals (List.replicate 300 0)) 3)) := make_ints 300 (by omega)
  have hmk1 : ∀ w, (Instr.makeSlice 24 (.int .i64 301) (.int .i64 301)).run Try.prog w = .ok (.slice (some ⟨w.heap.size, 0, none⟩) 301 301) (w.alloc (.cells (vals (List.replicate 301 0)) 3)) := make_ints 301 (by omega)
  generalize hR0 : List.replicate 300 (0 : Int) = R0 at hmk0
  generalize hR1 : List.replicate 301 (0 : Int) = R1 at hmk1
  have LR0 : Hid (R0.length = 300) := by show _ = _; rw [← hR0]; simp
  have LR1 : Hid (R1.length = 301) := by show _ = _; rw [← hR1]; simp
  clear hR0 hR1
  have hg := hd.lt
  have HD : Hid (DrawOk B g (w.alloc (.cells #[.slice none 0 0, .slice none 0 0] 26))) := hd.alloc _
  have HR0 : Hid ((w.alloc (.cells #[.slice none 0 0, .slice none 0 0] 26)).heap[w.heap.size]? = some (.cells #[.slice none 0 0, .slice none 0 0] 26 (0, 0))) := heap_alloc_new w _
  have HB0 : Hid (But g w (w.alloc (.cells #[.slice none 0 0, .slice none 0 0] 26))) := (But.refl g w).alloc _
  clear hd
  go_enter Try.func44, Try.ntmps44
  go_wp2_with fail
  refine (rightA_draw HD.out).mono ?_
  rintro e w1 ⟨x, y, s, d, M, rfl, ⟨hM, hML⟩, hP, hN, hls, hld, hb, hd'⟩
  simp at hM
  have HM0 : w.heap.size + 1 < M := by omega
  obtain ⟨xa, xc, hx, _⟩ := hP.ints
  obtain ⟨ya, yc, hy, _⟩ := hN.ints
  subst hx hy
  have HR1 : Hid (w1.heap[w.heap.size]? = some (.cells #[.slice none 0 0, .slice none 0 0] 26 (0, 0))) := (hb.block w.heap.size (by simp) (by omega)).trans HR0.out
  have HB1 : Hid (But g w w1) := HB0.out.trans hb
  have HD1 : Hid (DrawOk B g w1) := hd'
  have HP1 : Hid (Piece (w.heap.size + 1) M w1 (.slice xa s.length xc) s) := hP.mono (by simp) (Nat.le_refl _)
  have HN1 : Hid (NewInts M w1 (.slice ya d.length yc) d) := hN
  have S1 : w.heap.size < w1.heap.size := lt_of_heapA HR1.out
  clear hb hd' hP hN hM
  go_wp2_with fail
  generalize hW : World.alloc w1 (.cells #[.slice xa s.length xc, .slice ya d.length yc] 26) = W0
  have BW : Hid (Below w1.heap.size w1 W0) := by rw [← hW]; exact bAlloc (Below.refl _ _) _
  have X0 : Hid (Box W0 w1.heap.size (.slice xa s.length xc) (.slice ya d.length yc) 26) := by rw [← hW]; exact box_new w1 _ _ _
  have DW : Hid (DrawOk B g W0) := by rw [← hW]; exact HD1.out.alloc _
  clear hW
  refine (below_small DW.out 20 (by decide) (by decide)).mono ?_
  rintro e w2 ⟨n, n1, n2, rfl, hb, hd'⟩
  have HB12 : Hid (But g w1 w2) := (But.of BW.out).trans hb
  have HB2 : Hid (But g w w2) := HB1.out.trans HB12.out
  have HD2 : Hid (DrawOk B g w2) := hd'
  have hX2 : Box w2 w1.heap.size (.slice xa s.length xc) (.slice ya d.length yc) 26 := boxBut X0.out hb (by omega)
  have HX2 : Hid (Box w2 w1.heap.size (.slice xa s.length xc) (.slice ya d.length yc) 26) := hX2
  have hR2 : w2.heap[w.heap.size]? = some (.cells #[.slice none 0 0, .slice none 0 0] 26 (0, 0)) := (HB12.out.block w.heap.size S1 (by omega)).trans HR1.out
  have HR2 : Hid (w2.heap[w.heap.size]? = some (.cells #[.slice none 0 0, .slice none 0 0] 26 (0, 0))) := hR2
  have HP2 : Hid (Piece (w.heap.size + 1) M w2 (.slice xa s.length xc) s) := HP1.out.but HB12.out (.inl (by omega))
  have HN2 : Hid (NewInts M w2 (.slice ya d.length yc) d) := HN1.out.but HB12.out (by omega)
  have HY2 : Hid (Piece M w1.heap.size w2 (.slice ya d.length yc) d) := HN1.out.piece.but HB12.out (.inl (by omega))
  have L2 := hX2.lt
  have c0 := hX2.c0
  have c1 := hX2.c1
  have e0 : w2.frozen? ⟨w1.heap.size, 0, none⟩ = false := free_at hX2 0
  have e1 : w2.frozen? ⟨w1.heap.size, 1, none⟩ = false := free_at hX2 1
  have k0 : w2.cell? ⟨w.heap.size, 0, none⟩ = some (.slice none 0 0) := cell_at hR2 rfl
  have k1 : w2.cell? ⟨w.heap.size, 1, none⟩ = some (.slice none 0 0) := cell_at hR2 rfl
  have f0 : w2.frozen? ⟨w.heap.size, 0, none⟩ = false := free_at hR2 0
  have f1 : w2.frozen? ⟨w.heap.size, 1, none⟩ = false := free_at hR2 1
  have hne : w1.heap.size ≠ w.heap.size := by omega
  clear hb hd' hX2 hR2
  by_cases m0 : n = 0
  · subst m0
    clear c0 e0 e1 k0 k1 f0 f1
    go_wp2_with (at_builtin; refine wpList_append_lies _ rfl _ _ 24 rfl M 3 i0 (.int .i64 0) 1 8 Try.underlying24 hq z1 z2 z3 rfl (by decide) (.slice ya d.length yc) d.length (d.map (Value.int .i64)) rfl (ownsRow_keep HN2.out (bAlloc (Below.refl _ _) _)) ⟨w2.heap.size, 0, none⟩ 1 1 [.int .i64 1] rfl rfl (World.news_of_block (cs := #[.int .i64 1]) (heap_alloc_new w2 _)) (by simp [Value.oneCell']) (by decide) ?c1 ?c2 ?c3 (w2.heap.size + 1) (by simp) ?_)
    case c1 => unfold maxLen; omega
    case c2 => omega
    case c3 => simp; omega
    intro g4 cap4 w3 hown hgrow hat hlt4
    have rw0 : ∀ k, (Value.slice ya d.length yc).ownBlock = some k → M ≤ k ∧ k < w1.heap.size := fun k e => ⟨HN1.out.row k e, HN1.out.lt e⟩
    have hX3 : Box w3 w1.heap.size (.slice xa s.length xc) (.slice ya d.length yc) 26 := boxGrownNe (HX2.out.keep (bAlloc (Below.refl _ _) _)) hgrow (fun k e => by have := rw0 k e; omega)
    have hR3 : w3.heap[w.heap.size]? = some (.cells #[.slice none 0 0, .slice none 0 0] 26 (0, 0)) := (hgrow.block w.heap.size (by simp; omega) (fun e => by have := rw0 _ e.symm; omega)).trans ((Below.heap_alloc _ _ _ (by omega)).trans HR2.out)
    have c0 := hX3.c0
    have c1 := hX3.c1
    have e0 : w3.frozen? ⟨w1.heap.size, 0, none⟩ = false := free_at hX3 0
    have e1 : w3.frozen? ⟨w1.heap.size, 1, none⟩ = false := free_at hX3 1
    have k0 : w3.cell? ⟨w.heap.size, 0, none⟩ = some (.slice none 0 0) := cell_at hR3 rfl
    have k1 : w3.cell? ⟨w.heap.size, 1, none⟩ = some (.slice none 0 0) := cell_at hR3 rfl
    have f0 : w3.frozen? ⟨w.heap.size, 0, none⟩ = false := free_at hR3 0
    have f1 : w3.frozen? ⟨w.heap.size, 1, none⟩ = false := free_at hR3 1
    have E1 : Hid (Drawn B g w (w3.setCell ⟨w1.heap.size, 1, none⟩ (.slice (some ⟨g4, 0, none⟩) (d.length + 1) cap4)) w1.heap.size (.slice xa s.length xc) (.slice (some ⟨g4, 0, none⟩) (d.length + 1) cap4) s (d ++ [1])) := by
      have C : But w1.heap.size w3 (w3.setCell ⟨w1.heap.size, 1, none⟩ (.slice (some ⟨g4, 0, none⟩) (d.length + 1) cap4)) := (But.refl _ _).setCell 1 _
      have N4 : NewInts M w3 (.slice (some ⟨g4, 0, none⟩) (d.length + 1) cap4) (d ++ [1]) := by show World.ownsRow _ _ _ _ _ _ _; simpa using hown
      have hne4 : g4 ≠ w1.heap.size := by
        rcases hat with h | h
        · have := rw0 _ h; omega
        · omega
      have p2 := (N4.butNe C hne4).piece
      have p1 : Piece (w.heap.size + 1) M _ (.slice xa s.length xc) s := ((HP2.out.keep (bAlloc (Below.refl _ _) _)).grownC hgrow (fun k e => (rw0 k e).1)).but C (.inr hML)
      have z4 := hgrow.size
      have z5 := C.size
      simp at z4
      exact ⟨(C.block w.heap.size (by omega) (by omega)).trans hR3, boxSet1 hX3 _, hg, p1.mono (by omega) (by omega), p2.mono (by omega) (Nat.le_refl _), p1.apart p2 (.inl (Nat.le_refl _)), hls, by simp; omega, ((HB2.out.alloc _).grown hgrow (fun k e => by have := rw0 k e; omega)).setNew (by omega) 1 _, ((HD2.out.alloc _).grown hgrow (fun k e => by have := rw0 k e; omega)).but C (by omega)⟩
    clear hown hgrow hat hlt4 rw0 hX3 hR3
    go_wp2_with fail
    obtain ⟨a1, a2, a3, a4⟩ := draw_end E1.out.r E1.out.hg E1.out.px E1.out.py E1.out.ap E1.out.but E1.out.ok
    exact bodyPost_ret (v := .agg #[_, _]) (results_arr rfl _ _ w.heap.size _ _ rfl a1) rfl ⟨_, _, _, rfl, a2, E1.out.ls, E1.out.ld, a3, a4⟩
  by_cases m1 : n = 1
  · subst m1
    clear c0 c1 e0 e1 k0 k1 f0 f1
    go_wp2_with fail
    refine (shape_draw HD2.out).mono ?_
    rintro e w3 ⟨v, l, rfl, ⟨hl, _⟩, hN, hb, hd'⟩
    obtain ⟨va, vc, hv, _⟩ := hN.ints
    subst hv
    have hX3 : Box w3 w1.heap.size (.slice xa s.length xc) (.slice ya d.length yc) 26 := boxBut HX2.out hb (by omega)
    have hR3 : w3.heap[w.heap.size]? = some (.cells #[.slice none 0 0, .slice none 0 0] 26 (0, 0)) := (hb.block w.heap.size (by omega) (by omega)).trans HR2.out
    have c0 := hX3.c0
    have c1 := hX3.c1
    have e0 : w3.frozen? ⟨w1.heap.size, 0, none⟩ = false := free_at hX3 0
    have e1 : w3.frozen? ⟨w1.heap.size, 1, none⟩ = false := free_at hX3 1
    have k0 : w3.cell? ⟨w.heap.size, 0, none⟩ = some (.slice none 0 0) := cell_at hR3 rfl
    have k1 : w3.cell? ⟨w.heap.size, 1, none⟩ = some (.slice none 0 0) := cell_at hR3 rfl
    have f0 : w3.frozen? ⟨w.heap.size, 0, none⟩ = false := free_at hR3 0
    have f1 : w3.frozen? ⟨w.heap.size, 1, none⟩ = false := free_at hR3 1
    have E1 : Hid (Drawn B g w (w3.setCell ⟨w1.heap.size, 0, none⟩ (.slice va l.length vc)) w1.heap.size (.slice va l.length vc) (.slice ya d.length yc) l d) := by
      have C : But w1.heap.size w3 (w3.setCell ⟨w1.heap.size, 0, none⟩ (.slice va l.length vc)) := (But.refl _ _).setCell 0 _
      have p1 : Piece w2.heap.size w3.heap.size _ (.slice va l.length vc) l := hN.piece.but C (.inl (by omega))
      have p2 : Piece M w1.heap.size _ (.slice ya d.length yc) d := (HY2.out.but hb (.inl (by omega))).but C (.inr (by omega))
      have z3 := hb.size
      have z4 := C.size
      exact ⟨(C.block w.heap.size (by omega) (by omega)).trans hR3, boxSet0 hX3 _, hg, p1.mono (by omega) z4, p2.mono (by omega) (by omega), p1.apart p2 (.inr (by omega)), hl, by omega, (HB2.out.trans hb).setNew (by omega) 0 _, hd'.but C (by omega)⟩
    clear hb hd' hX3 hR3 hN
    go_wp2_with fail
    obtain ⟨a1, a2, a3, a4⟩ := draw_end E1.out.r E1.out.hg E1.out.px E1.out.py E1.out.ap E1.out.but E1.out.ok
    exact bodyPost_ret (v := .agg #[_, _]) (results_arr rfl _ _ w.heap.size _ _ rfl a1) rfl ⟨_, _, _, rfl, a2, E1.out.ls, E1.out.ld, a3, a4⟩
  by_cases m2 : n = 2
  · subst m2
    by_cases hd0 : d.length = 0
    · have E0 : Drawn B g w w2 w1.heap.size (.slice xa s.length xc) (.slice ya d.length yc) s d :=
        ⟨HR2.out, HX2.out, hg, HP2.out.mono (Nat.le_refl _) (by omega), HY2.out.mono (by omega) (by omega), HP2.out.apart HY2.out (.inl (by omega)), hls, by omega, HB2.out, HD2.out⟩
      rw [hd0] at E0
      have E1 : Hid (Drawn B g w w2 w1.heap.size (.slice xa s.length xc) (.slice ya 0 yc) s d) := E0
      clear E0
      go_wp2_with fail
      obtain ⟨a1, a2, a3, a4⟩ := draw_end E1.out.r E1.out.hg E1.out.px E1.out.py E1.out.ap E1.out.but E1.out.ok
      exact bodyPost_ret (v := .agg #[_, _]) (results_arr rfl _ _ w.heap.size _ _ rfl a1) rfl ⟨_, _, _, rfl, a2, E1.out.ls, E1.out.ld, a3, a4⟩
    · obtain ⟨p, rfl, hp1, hp2⟩ : ∃ p, ya = some ⟨p, 0, none⟩ ∧ M ≤ p ∧ p < w1.heap.size := by
        obtain ⟨_, h2⟩ := HN1.out
        rcases h2 with ⟨e, h0⟩ | ⟨k, cap, cur, e, hB, hh, _⟩
        · exact absurd h0 hd0
        · cases e; exact ⟨k, rfl, hB, lt_of_heapA hh⟩
      have hpq : ¬ p = w1.heap.size := by omega
      have HDr : Hid (DrawOk B g w2.drew) := HD2.out.keep ((Below.refl B w2).drew) rfl
      have hdp : (0 : Int) < (d.length : Int) := by omega
      go_wp2_with fail
      clear e0 e1 k0 k1 f0 f1
      go_region_held3 (fun w' => w'.cell? ⟨w1.heap.size, 1, none⟩ = some (.slice (some ⟨p, 0, none⟩) d.length yc))
        (first | exact c1 | exact q3 | exact q4 | exact q5 | go_keep)
        (first
          | (go_at_call 38; refine (below_any (B := B) (g := g) HDr.out (d.length : Int) hdp).mono ?_; rintro r w3 ⟨x, x1, x2, rfl, hb3, hd3⟩; obtain ⟨j, rfl⟩ := Int.eq_ofNat_of_zero_le x1; have hj : j < d.length := (by omega); have B3 : Hid (But g w2 w3) := But.trans ((But.refl g w2).drewN 1) hb3; have D3 : Hid (DrawOk B g w3) := hd3; have X3 : Hid (Box w3 w1.heap.size (.slice xa s.length xc) (.slice (some ⟨p, 0, none⟩) d.length yc) 26) := boxBut HX2.out B3.out (by omega); have q3 := X3.out.c1; clear hb3 hd3)
          | (go_at_call 89; refine (raw_spec (B := B) (g := g) D3.out).mono ?_; rintro r w4 ⟨z, rfl, hb4, hd4⟩; have B4 : Hid (But g w2 w4) := B3.out.trans hb4; have D4 : Hid (DrawOk B g w4) := hd4; have X4 : Hid (Box w4 w1.heap.size (.slice xa s.length xc) (.slice (some ⟨p, 0, none⟩) d.length yc) 26) := boxBut HX2.out B4.out (by omega); have q4 := X4.out.c1; have P4 : Hid (Piece M w1.heap.size w4 (.slice (some ⟨p, 0, none⟩) d.length yc) d) := HY2.out.but B4.out (.inl (by omega)); have sc := piece_cell P4.out hj; have sf := piece_free P4.out hj; clear hb4 hd4))
      have C : But p w4 (w4.setCell ⟨p, j, none⟩ (.int .i64 z)) := (But.refl _ _).setCell j _
      have z4 := B4.out.size
      have z5 := C.size
      have hX5 := boxBut X4.out C (by omega)
      have hR5 : (w4.setCell ⟨p, j, none⟩ (.int .i64 z)).heap[w.heap.size]? = some (.cells #[.slice none 0 0, .slice none 0 0] 26 (0, 0)) := (C.block w.heap.size (by omega) (by omega)).trans ((B4.out.block w.heap.size (by omega) (by omega)).trans HR2.out)
      have E1 : Hid (Drawn B g w (w4.setCell ⟨p, j, none⟩ (.int .i64 z)) w1.heap.size (.slice xa s.length xc) (.slice (some ⟨p, 0, none⟩) d.length yc) s (d.set j z)) := by
        have p1 : Piece (w.heap.size + 1) M _ (.slice xa s.length xc) s := (HP2.out.but B4.out (.inl (by omega))).but C (.inr hp1)
        have p2 : Piece M w1.heap.size (w4.setCell ⟨p, j, none⟩ (.int .i64 z)) (.slice (some ⟨p, 0, none⟩) d.length yc) (d.set j z) := by
          have := piece_set P4.out j z
          rwa [Nat.zero_add] at this
        exact ⟨hR5, hX5, hg, p1.mono (by omega) (by omega), p2.mono (by omega) (by omega), p1.apart p2 (.inl (Nat.le_refl _)), hls, by simp; omega, (HB2.out.trans B4.out).setNew (by omega) j _, D4.out.but C (by omega)⟩
      generalize w4.setCell ⟨p, j, none⟩ (.int .i64 z) = W5 at *
      have v0 := hX5.c0
      have v1 := hX5.c1
      have k0 : W5.cell? ⟨w.heap.size, 0, none⟩ = some (.slice none 0 0) := cell_at hR5 rfl
      have k1 : W5.cell? ⟨w.heap.size, 1, none⟩ = some (.slice none 0 0) := cell_at hR5 rfl
      have f0 : W5.frozen? ⟨w.heap.size, 0, none⟩ = false := free_at hR5 0
      have f1 : W5.frozen? ⟨w.heap.size, 1, none⟩ = false := free_at hR5 1
      clear C hX5 hR5 sc sf q3 q4 c0 c1
      go_wp2_with fail
      obtain ⟨a1, a2, a3, a4⟩ := draw_end E1.out.r E1.out.hg E1.out.px E1.out.py E1.out.ap E1.out.but E1.out.ok
      exact bodyPost_ret (v := .agg #[_, _]) (results_arr rfl _ _ w.heap.size _ _ rfl a1) rfl ⟨_, _, _, rfl, a2, E1.out.ls, E1.out.ld, a3, a4⟩
  by_cases m3 : n = 3
  · subst m3
    clear c0 c1 e0 e1 k0 k1 f0 f1
    have H300 : Hid (OwnInts (w2.alloc (.cells #[.int .i64 300] 3)) w2.heap.size [300]) := heap_alloc_new w2 _
    go_wp2_with fail
    refine (below_small (HD2.out.alloc _) 2 (by decide) (by decide)).mono ?_
    rintro e w3 ⟨b, b1, b2, rfl, hb, hd'⟩
    have z3 := hb.size
    simp at z3
    have hX3 : Box w3 w1.heap.size (.slice xa s.length xc) (.slice ya d.length yc) 26 := boxBut (HX2.out.keep (bAlloc (Below.refl _ _) _)) hb (by omega)
    have hR3 : w3.heap[w.heap.size]? = some (.cells #[.slice none 0 0, .slice none 0 0] 26 (0, 0)) := (hb.block w.heap.size (by simp; omega) (by omega)).trans ((Below.heap_alloc _ _ _ (by omega)).trans HR2.out)
    have P3 : Hid (Piece w2.heap.size (w2.heap.size + 1) w3 (.slice (some ⟨w2.heap.size, 0, none⟩) 1 1) [300]) := (OwnInts.piece (l := [300]) H300.out (Nat.le_refl _) (Nat.lt_succ_self _) 1).but hb (.inl (by omega))
    have HB3 : Hid (But g w w3) := (HB2.out.alloc _).trans hb
    have HD3 : Hid (DrawOk B g w3) := hd'
    clear hb hd'
    have FIN : Hid (∀ (n : Nat) (R : List Int), R.length = n → n ≤ 301 → Drawn B g w (((w3.alloc (.cells (vals R) 3)).setCell ⟨w1.heap.size, 0, none⟩ (.slice (some ⟨w2.heap.size, 0, none⟩) 1 1)).setCell ⟨w1.heap.size, 1, none⟩ (.slice (some ⟨w3.heap.size, 0, none⟩) n n)) w1.heap.size (.slice (some ⟨w2.heap.size, 0, none⟩) 1 1) (.slice (some ⟨w3.heap.size, 0, none⟩) n n) [300] R) := by
      intro n R hRn hn
      subst hRn
      have C : But w1.heap.size (w3.alloc (.cells (vals R) 3)) (((w3.alloc (.cells (vals R) 3)).setCell ⟨w1.heap.size, 0, none⟩ (.slice (some ⟨w2.heap.size, 0, none⟩) 1 1)).setCell ⟨w1.heap.size, 1, none⟩ (.slice (some ⟨w3.heap.size, 0, none⟩) R.length R.length)) := ((But.refl _ _).setCell 0 _).setCell 1 _
      have p1 := (P3.out.keep (bAlloc (Below.refl _ _) (.cells (vals R) 3))).but C (.inl (by omega))
      have p2 := ((newInts_alloc w3 R (Nat.le_refl _) (by omega)).butNe C (by omega)).piece
      have z5 := C.size
      have z6 : w3.heap.size + 1 ≤ (w3.alloc (.cells (vals R) 3)).heap.size := by simp
      exact ⟨(C.block w.heap.size (by simp; omega) (by omega)).trans ((Below.heap_alloc _ _ _ (by omega)).trans hR3), boxSet1 (boxSet0 (hX3.keep (bAlloc (Below.refl _ _) _)) _) _, hg, p1.mono (by omega) (by omega), p2.mono (by omega) (Nat.le_refl _), p1.apart p2 (.inl (by omega)), by simp, hn, ((HB3.out.alloc _).setNew (by omega) 0 _).setNew (by omega) 1 _, (HD3.out.alloc _).but C (by omega)⟩
    have c0 : ∀ R, (w3.alloc (.cells (vals R) 3)).cell? ⟨w1.heap.size, 0, none⟩ = some (.slice xa s.length xc) := fun R => (hX3.keep (bAlloc (Below.refl _ _) _)).c0
    have c1 : ∀ R, (w3.alloc (.cells (vals R) 3)).cell? ⟨w1.heap.size, 1, none⟩ = some (.slice ya d.length yc) := fun R => (hX3.keep (bAlloc (Below.refl _ _) _)).c1
    have e0 : ∀ R, (w3.alloc (.cells (vals R) 3)).frozen? ⟨w1.heap.size, 0, none⟩ = false := fun R => free_at (hX3.keep (bAlloc (Below.refl _ _) _)) 0
    have e1 : ∀ R, (w3.alloc (.cells (vals R) 3)).frozen? ⟨w1.heap.size, 1, none⟩ = false := fun R => free_at (hX3.keep (bAlloc (Below.refl _ _) _)) 1
    have hR4 : ∀ R, (w3.alloc (.cells (vals R) 3)).heap[w.heap.size]? = some (.cells #[.slice none 0 0, .slice none 0 0] 26 (0, 0)) := fun R => (Below.heap_alloc _ _ _ (by omega)).trans hR3
    have k0 : ∀ R, (w3.alloc (.cells (vals R) 3)).cell? ⟨w.heap.size, 0, none⟩ = some (.slice none 0 0) := fun R => cell_at (hR4 R) rfl
    have k1 : ∀ R, (w3.alloc (.cells (vals R) 3)).cell? ⟨w.heap.size, 1, none⟩ = some (.slice none 0 0) := fun R => cell_at (hR4 R) rfl
    have f0 : ∀ R, (w3.alloc (.cells (vals R) 3)).frozen? ⟨w.heap.size, 0, none⟩ = false := fun R => free_at (hR4 R) 0
    have f1 : ∀ R, (w3.alloc (.cells (vals R) 3)).frozen? ⟨w.heap.size, 1, none⟩ = false := fun R => free_at (hR4 R) 1
    clear hX3 hR3 hR4
    by_cases y5 : b = 0
    · subst y5
      have E1 := FIN.out 300 R0 LR0.out (by omega)
      have HE : Hid (Drawn B g w _ w1.heap.size _ _ _ _) := E1
      clear E1
      go_wp2_with fail
      obtain ⟨a1, a2, a3, a4⟩ := draw_end HE.out.r HE.out.hg HE.out.px HE.out.py HE.out.ap HE.out.but HE.out.ok
      exact bodyPost_ret (v := .agg #[_, _]) (results_arr rfl _ _ w.heap.size _ _ rfl a1) rfl ⟨_, _, _, rfl, a2, HE.out.ls, HE.out.ld, a3, a4⟩
    · obtain rfl : b = 1 := by omega
      have E1 := FIN.out 301 R1 LR1.out (by omega)
      have HE : Hid (Drawn B g w _ w1.heap.size _ _ _ _) := E1
      clear E1
      go_wp2_with fail
      obtain ⟨a1, a2, a3, a4⟩ := draw_end HE.out.r HE.out.hg HE.out.px HE.out.py HE.out.ap HE.out.but HE.out.ok
      exact bodyPost_ret (v := .agg #[_, _]) (results_arr rfl _ _ w.heap.size _ _ rfl a1) rfl ⟨_, _, _, rfl, a2, HE.out.ls, HE.out.ld, a3, a4⟩
  · have E1 : Hid (Drawn B g w w2 w1.heap.size (.slice xa s.length xc) (.slice ya d.length yc) s d) := 
      ⟨HR2.out, HX2.out, hg, HP2.out.mono (Nat.le_refl _) (by omega), HY2.out.mono (by omega) (by omega), HP2.out.apart HY2.out (.inl (by omega)), hls, by omega, HB2.out, HD2.out⟩
    go_wp2_with fail
    obtain ⟨a1, a2, a3, a4⟩ := draw_end E1.out.r E1.out.hg E1.out.px E1.out.py E1.out.ap E1.out.but E1.out.ok
    exact bodyPost_ret (v := .agg #[_, _]) (results_arr rfl _ _ w.heap.size _ _ rfl a1) rfl ⟨_, _, _, rfl, a2, E1.out.ls, E1.out.ld, a3, a4⟩
end Go.Proofs.Ythjjjnapcbkhjaa
namespace Go.Proofs.Ythjjjnapcbkhjaa
open Go.RowKit
set_option linter.unusedVariables false
set_option linter.unusedSimpArgs false
/-- Two arrays in two cells. -/
theorem results_arr2 {fn : Func} {p q : Tmp} (h : fn.results = #[.cell p 26, .cell q 26]) (tmps : Array Value) (w : World) (g k : Nat) (x y x' y' : Value) (hp : tmps.getD p undef = .pointer (some ⟨g, 0, none⟩)) (hq : tmps.getD q undef = .pointer (some ⟨k, 0, none⟩))
    (hg : w.heap[g]? = some (.cells #[x, y] 26 (0, 0))) (hk : w.heap[k]? = some (.cells #[x', y'] 26 (0, 0))) : (results fn tmps).run Try.prog w = .ok (.tuple #[.agg #[x, y], .agg #[x', y']]) w := by
  have e : (asAddr (.pointer (some ⟨g, 0, none⟩))).run Try.prog w = .ok ⟨g, 0, none⟩ w := by simp [asAddr]
  have e' : (asAddr (.pointer (some ⟨k, 0, none⟩))).run Try.prog w = .ok ⟨k, 0, none⟩ w := by simp [asAddr]
  have l := arr_loaded hg
  have l' := arr_loaded hk
  have hp' : tmps[p]?.getD undef = .pointer (some ⟨g, 0, none⟩) := by simpa using hp
  have hq' : tmps[q]?.getD undef = .pointer (some ⟨k, 0, none⟩) := by simpa using hq
  simp [results, h, hp', hq', e, e', l, l', Sem.run_bind, Result.andThen]
theorem two_end {w W : World} {x y x' y' : Value} {s d t f : List Int} (ra : Box W w.heap.size (.slice none 0 0) (.slice none 0 0) 26) (rb : Box W (w.heap.size + 1) (.slice none 0 0) (.slice none 0 0) 26) (A : Arr (w.heap.size + 2) W.heap.size W (.agg #[x, y]) s d) (B : Arr (w.heap.size + 2) W.heap.size W (.agg #[x', y']) t f) (bl : Below w.heap.size w W) :
    ((((W.setCell ⟨w.heap.size, 0, none⟩ x).setCell ⟨w.heap.size, 1, none⟩ y).setCell ⟨w.heap.size + 1, 0, none⟩ x').setCell ⟨w.heap.size + 1, 1, none⟩ y').heap[w.heap.size]? = some (.cells #[x, y] 26 (0, 0)) ∧
    ((((W.setCell ⟨w.heap.size, 0, none⟩ x).setCell ⟨w.heap.size, 1, none⟩ y).setCell ⟨w.heap.size + 1, 0, none⟩ x').setCell ⟨w.heap.size + 1, 1, none⟩ y').heap[w.heap.size + 1]? = some (.cells #[x', y'] 26 (0, 0)) ∧
    Arr w.heap.size ((((W.setCell ⟨w.heap.size, 0, none⟩ x).setCell ⟨w.heap.size, 1, none⟩ y).setCell ⟨w.heap.size + 1, 0, none⟩ x').setCell ⟨w.heap.size + 1, 1, none⟩ y').heap.size ((((W.setCell ⟨w.heap.size, 0, none⟩ x).setCell ⟨w.heap.size, 1, none⟩ y).setCell ⟨w.heap.size + 1, 0, none⟩ x').setCell ⟨w.heap.size + 1, 1, none⟩ y') (.agg #[x, y]) s d ∧
    Arr w.heap.size ((((W.setCell ⟨w.heap.size, 0, none⟩ x).setCell ⟨w.heap.size, 1, none⟩ y).setCell ⟨w.heap.size + 1, 0, none⟩ x').setCell ⟨w.heap.size + 1, 1, none⟩ y').heap.size ((((W.setCell ⟨w.heap.size, 0, none⟩ x).setCell ⟨w.heap.size, 1, none⟩ y).setCell ⟨w.heap.size + 1, 0, none⟩ x').setCell ⟨w.heap.size + 1, 1, none⟩ y') (.agg #[x', y']) t f ∧
    Below w.heap.size w ((((W.setCell ⟨w.heap.size, 0, none⟩ x).setCell ⟨w.heap.size, 1, none⟩ y).setCell ⟨w.heap.size + 1, 0, none⟩ x').setCell ⟨w.heap.size + 1, 1, none⟩ y') := by
  have a1 : Box ((W.setCell ⟨w.heap.size, 0, none⟩ x).setCell ⟨w.heap.size, 1, none⟩ y) w.heap.size x y 26 := arr_stored ra
  have b1 : Box ((W.setCell ⟨w.heap.size, 0, none⟩ x).setCell ⟨w.heap.size, 1, none⟩ y) (w.heap.size + 1) (.slice none 0 0) (.slice none 0 0) 26 := (rb.win (win_setCell _ _ _ _) (.inr (Nat.le_refl _))).win (win_setCell _ _ _ _) (.inr (Nat.le_refl _))
  exact ⟨(a1.win (win_setCell _ _ _ _) (.inl (Nat.lt_succ_self _))).win (win_setCell _ _ _ _) (.inl (Nat.lt_succ_self _)), arr_stored b1, ((((A.setCell (by omega) _ _).setCell (by omega) _ _).setCell (by omega) _ _).setCell (by omega) _ _).mono (by omega) (by simp [size_setCell]), ((((B.setCell (by omega) _ _).setCell (by omega) _ _).setCell (by omega) _ _).setCell (by omega) _ _).mono (by omega) (by simp [size_setCell]),
    below_setCell (below_setCell (below_setCell (below_setCell bl (Nat.le_refl _) _ _) (Nat.le_refl _) _ _) (by omega) _ _) (by omega) _ _⟩
theorem Arr.but {B C G : Nat} {w w' : World} {v : Value} {s d : List Int} (h : Arr B C w v s d) (hb : But G w w') (hd : G < B ∨ C ≤ G) : Arr B C w' v s d := by
  obtain ⟨x, y, rfl, h1, h2, h3⟩ := h
  exact ⟨x, y, rfl, h1.but hb hd, h2.but hb hd, h3⟩
set_option maxRecDepth 20000 in
set_option maxHeartbeats 4000000 in
/-- l3DrawTwo. -/
theorem drawTwoA_spec {w : World} {a : Option Addr} {len cap : Nat} (hs : Src w.heap.size w a len) (hb20 : len ≤ 1048576) :
    Calls Try.prog 81 #[.slice a len cap] w fun e w' => ∃ v u s d t f, e = .returned (.tuple #[v, u]) ∧ Arr w.heap.size w'.heap.size w' v s d ∧ Arr w.heap.size w'.heap.size w' u t f ∧ (s.length ≤ 4 ∧ d.length ≤ 301 ∧ t.length ≤ 4 ∧ f.length ≤ 301) ∧ Below w.heap.size w w' := by
  obtain ⟨W0, hW0⟩ : ∃ x, x = (w.alloc (.cells #[.slice none 0 0, .slice none 0 0] 26)).alloc (.cells #[.slice none 0 0, .slice none 0 0] 26) := ⟨_, rfl⟩
  have HB0 : Hid (Below w.heap.size w W0) := by rw [hW0]; exact bAlloc (bAlloc (Below.refl _ _) _) _
  have HS : Hid (Src W0.heap.size W0 a len) := srcKeep hs HB0.out
  have RA0 : Hid (Box W0 w.heap.size (.slice none 0 0) (.slice none 0 0) 26) := by rw [hW0]; exact heap_alloc2_old w _ _
  have RB0 : Hid (Box W0 (w.heap.size + 1) (.slice none 0 0) (.slice none 0 0) 26) := by rw [hW0]; exact heap_alloc2_new w _ _
  have SW0 : W0.heap.size = w.heap.size + 2 := by rw [hW0]; simp
  clear hs
  go_enter Try.func81, Try.ntmps81
  go_wp2_with fail
  rw [← hW0]
  refine (new_spec HS.out hb20).mono ?_
  rintro e w1 ⟨g, rfl, hb, hd⟩
  have HB1 : Hid (Below w.heap.size w w1) := bTrans HB0.out hb
  have RA1 : Hid (Box w1 w.heap.size (.slice none 0 0) (.slice none 0 0) 26) := RA0.out.keep hb
  have RB1 : Hid (Box w1 (w.heap.size + 1) (.slice none 0 0) (.slice none 0 0) 26) := RB0.out.keep hb
  have HD1 : Hid (DrawOk W0.heap.size g w1) := hd
  have hg0 : w.heap.size + 2 ≤ g := by have := hd.1; omega
  have hg1 := hd.lt
  clear hb hd hW0 RA0 RB0 HB0
  go_wp2_with fail
  refine (draw_draw HD1.out).mono ?_
  rintro e w2 ⟨v, s, d, rfl, hA, hls, hld, hb, hd⟩
  obtain ⟨px, py, rfl, pp, pq, ap⟩ := hA
  obtain ⟨xa, xc, hx, _⟩ := pp.ints
  obtain ⟨ya, yc, hy, _⟩ := pq.ints
  subst hx hy
  have B2 : Hid (But g w1 w2) := hb
  have A2 : Hid (Arr w1.heap.size w2.heap.size w2 (.agg #[.slice xa s.length xc, .slice ya d.length yc]) s d) := ⟨_, _, rfl, pp, pq, ap⟩
  have HD2 : Hid (DrawOk W0.heap.size g w2) := hd
  have S2 : Hid (w1.heap.size ≤ w2.heap.size) := hb.size
  clear hb hd pp pq ap
  go_wp2_with fail
  generalize hW : w2.alloc (.cells #[.slice xa s.length xc, .slice ya d.length yc] 26) = W3
  have ZA : Hid (Box W3 w2.heap.size (.slice xa s.length xc) (.slice ya d.length yc) 26) := by rw [← hW]; exact box_new w2 _ _ _
  have BW3 : Hid (Below w2.heap.size w2 W3) := by rw [← hW]; exact bAlloc (Below.refl _ _) _
  have HD3 : Hid (DrawOk W0.heap.size g W3) := by rw [← hW]; exact HD2.out.alloc _
  clear hW
  refine (draw_draw HD3.out).mono ?_
  rintro e w4 ⟨v', t, f, rfl, hA, hlt, hlf, hb, hd⟩
  obtain ⟨px, py, rfl, pp, pq, ap⟩ := hA
  obtain ⟨ua, uc, hx, _⟩ := pp.ints
  obtain ⟨va, vc, hy, _⟩ := pq.ints
  subst hx hy
  have SS2 := S2.out
  have S3 : Hid (w2.heap.size < W3.heap.size) := ZA.out.lt
  have SS3 := S3.out
  have A4 : Hid (Arr w1.heap.size w2.heap.size w4 (.agg #[.slice xa s.length xc, .slice ya d.length yc]) s d) := (A2.out.keep BW3.out).but hb (.inl hg1)
  have C4 : Hid (Arr W3.heap.size w4.heap.size w4 (.agg #[.slice ua t.length uc, .slice va f.length vc]) t f) := ⟨_, _, rfl, pp, pq, ap⟩
  have ZA4 : Hid (Box w4 w2.heap.size (.slice xa s.length xc) (.slice ya d.length yc) 26) := boxBut ZA.out hb (by omega)
  have RA4 : Hid (Box w4 w.heap.size (.slice none 0 0) (.slice none 0 0) 26) := boxBut ((boxBut RA1.out B2.out (by omega)).keep BW3.out) hb (by omega)
  have RB4 : Hid (Box w4 (w.heap.size + 1) (.slice none 0 0) (.slice none 0 0) 26) := boxBut ((boxBut RB1.out B2.out (by omega)).keep BW3.out) hb (by omega)
  have HB4 : Hid (Below w.heap.size w w4) := (bTrans (HB1.out.trans (B2.out.below (by omega) HB1.out.size)) BW3.out).trans (hb.below (by omega) (by have := HB1.out.size; omega))
  have HD4 : Hid (DrawOk W0.heap.size g w4) := hd
  have S4 : Hid (W3.heap.size ≤ w4.heap.size) := hb.size
  have SS4 := S4.out
  clear hb hd pp pq ap
  go_wp2_with fail
  generalize hW : w4.alloc (.cells #[.slice ua t.length uc, .slice va f.length vc] 26) = W5
  have BW5 : Hid (Below w4.heap.size w4 W5) := by rw [← hW]; exact bAlloc (Below.refl _ _) _
  have ZB5 : Hid (Box W5 w4.heap.size (.slice ua t.length uc) (.slice va f.length vc) 26) := by rw [← hW]; exact box_new w4 _ _ _
  have HD5 : Hid (DrawOk W0.heap.size g W5) := by rw [← hW]; exact HD4.out.alloc _
  have S5 : Hid (w4.heap.size < W5.heap.size) := ZB5.out.lt
  have SS5 := S5.out
  clear hW
  refine (below_small HD5.out 4 (by decide) (by decide)).mono ?_
  rintro e w6 ⟨z, z0, z4, rfl, hb, hd⟩
  have A6 : Hid (Arr w1.heap.size w2.heap.size w6 (.agg #[.slice xa s.length xc, .slice ya d.length yc]) s d) := (A4.out.keep BW5.out).but hb (.inl hg1)
  have C6 : Hid (Arr W3.heap.size w4.heap.size w6 (.agg #[.slice ua t.length uc, .slice va f.length vc]) t f) := (C4.out.keep BW5.out).but hb (.inl (by omega))
  have ZA6 : Hid (Box w6 w2.heap.size (.slice xa s.length xc) (.slice ya d.length yc) 26) := boxBut (ZA4.out.keep BW5.out) hb (by omega)
  have ZB6 : Hid (Box w6 w4.heap.size (.slice ua t.length uc) (.slice va f.length vc) 26) := boxBut ZB5.out hb (by omega)
  have RA6 : Hid (Box w6 w.heap.size (.slice none 0 0) (.slice none 0 0) 26) := boxBut (RA4.out.keep BW5.out) hb (by omega)
  have RB6 : Hid (Box w6 (w.heap.size + 1) (.slice none 0 0) (.slice none 0 0) 26) := boxBut (RB4.out.keep BW5.out) hb (by omega)
  have HB6 : Hid (Below w.heap.size w w6) := (bTrans HB4.out BW5.out).trans (hb.below (by omega) (by have := HB4.out.size; omega))
  have HD6 : Hid (DrawOk W0.heap.size g w6) := hd
  have S6 : Hid (W5.heap.size ≤ w6.heap.size) := hb.size
  have SS6 := S6.out
  have AF : Hid (Arr (w.heap.size + 2) w6.heap.size w6 (.agg #[.slice xa s.length xc, .slice ya d.length yc]) s d) := A6.out.mono (by omega) (by omega)
  have CF : Hid (Arr (w.heap.size + 2) w6.heap.size w6 (.agg #[.slice ua t.length uc, .slice va f.length vc]) t f) := C6.out.mono (by omega) (by omega)
  have LS : Hid (s.length ≤ 1048576 ∧ d.length ≤ 1048576) := ⟨by omega, by omega⟩
  clear hb hd
  by_cases h0 : z = 0
  · subst h0
    have a0 := ZA6.out.c0
    have a1 := ZA6.out.c1
    go_wp2_with fail
    refine (copy_spec A6.out.arrI LS.out.1 LS.out.2).mono ?_
    rintro r w7 ⟨v7, rfl, ha, hb⟩
    obtain ⟨ka, kc, la, lc, rfl, _, _, _, _⟩ := ha.arrI
    have N7 : Hid (Arr w6.heap.size w7.heap.size w7 (.agg #[.slice ka s.length kc, .slice la d.length lc]) s d) := ha
    have ZB7 : Hid (Box w7 w4.heap.size (.slice ua t.length uc) (.slice va f.length vc) 26) := ZB6.out.keep hb
    have K7 : Hid (Below w6.heap.size w6 w7) := hb
    have S7 : Hid (w6.heap.size ≤ w7.heap.size) := hb.size
    have SS7 := S7.out
    clear ha hb a0 a1
    have b0 := ZB7.out.c0
    have b1 := ZB7.out.c1
    have g0 : w7.frozen? ⟨w4.heap.size, 0, none⟩ = false := free_at ZB7.out 0
    have g1 : w7.frozen? ⟨w4.heap.size, 1, none⟩ = false := free_at ZB7.out 1
    go_wp2_with fail
    clear b0 b1 g0 g1
    generalize hW : (w7.setCell ⟨w4.heap.size, 0, none⟩ (.slice ka s.length kc)).setCell ⟨w4.heap.size, 1, none⟩ (.slice la d.length lc) = W8
    have WW : Hid (Win w4.heap.size (w4.heap.size + 1) w7 W8) := by rw [← hW]; exact (win_setCell _ _ _ _).trans (win_setCell _ _ _ _)
    have ZB8 : Hid (Box W8 w4.heap.size (.slice ka s.length kc) (.slice la d.length lc) 26) := by rw [← hW]; exact arr_stored (ZB7.out)
    have SW8 : Hid (W8.heap.size = w7.heap.size) := by rw [← hW]; show _ = _; simp [size_setCell]
    have RA8 : Hid (Box W8 w.heap.size (.slice none 0 0) (.slice none 0 0) 26) := (RA6.out.keep K7.out).win WW.out (.inl (by omega))
    have RB8 : Hid (Box W8 (w.heap.size + 1) (.slice none 0 0) (.slice none 0 0) 26) := (RB6.out.keep K7.out).win WW.out (.inl (by omega))
    have ZA8 : Hid (Box W8 w2.heap.size (.slice xa s.length xc) (.slice ya d.length yc) 26) := (ZA6.out.keep K7.out).win WW.out (.inl (by omega))
    have A8 : Hid (Arr (w.heap.size + 2) W8.heap.size W8 (.agg #[.slice xa s.length xc, .slice ya d.length yc]) s d) := ((A6.out.keep K7.out).win WW.out (.inl (by omega))).mono (by omega) (by have := SW8.out; omega)
    have C8 : Hid (Arr (w.heap.size + 2) W8.heap.size W8 (.agg #[.slice ka s.length kc, .slice la d.length lc]) s d) := ((N7.out).win WW.out (.inr (by omega))).mono (by omega) (by have := SW8.out; omega)
    have HB8 : Hid (Below w.heap.size w W8) := (bTrans HB6.out K7.out).trans (WW.out.below (by omega) (by have := (bTrans HB6.out K7.out).size; omega))
    clear hW
    have r0 := (RA8.out).c0
    have r1 := (RA8.out).c1
    have r2 := (RB8.out).c0
    have r3 := (RB8.out).c1
    have q0 := (ZA8.out).c0
    have q1 := (ZA8.out).c1
    have q2 := (ZB8.out).c0
    have q3 := (ZB8.out).c1
    have f0 : W8.frozen? ⟨w.heap.size, 0, none⟩ = false := free_at (RA8.out) 0
    have f1 : W8.frozen? ⟨w.heap.size, 1, none⟩ = false := free_at (RA8.out) 1
    have f2 : W8.frozen? ⟨w.heap.size + 1, 0, none⟩ = false := free_at (RB8.out) 0
    have f3 : W8.frozen? ⟨w.heap.size + 1, 1, none⟩ = false := free_at (RB8.out) 1
    have FE := two_end (RA8.out) (RB8.out) (A8.out) (C8.out) (HB8.out)
    have FX : Hid (_ ∧ _ ∧ _ ∧ _ ∧ _) := FE
    clear FE
    go_wp2
    go_region
    all_goals go_wp2
    all_goals
      refine bodyPost_ret (results_arr2 rfl _ _ w.heap.size (w.heap.size + 1) _ _ _ _ rfl rfl FX.out.1 FX.out.2.1) rfl ?_
      exact ⟨_, _, _, _, _, _, rfl, FX.out.2.2.1, FX.out.2.2.2.1, ⟨hls, hld, hls, hld⟩, FX.out.2.2.2.2.drew⟩
  · have n0 : (z == 0) = false := by simpa using h0
    by_cases h1 : z = 1
    · subst h1
      have a0 := ZA6.out.c0
      have a1 := ZA6.out.c1
      obtain ⟨_, _, ea, pa, _, _⟩ := A6.out
      cases ea
      have SI : Hid (Piece w1.heap.size w2.heap.size w6 (.slice xa s.length xc) s) := pa
      obtain ⟨xa', xc', ee, ia⟩ := pa.ints
      cases ee
      have IA : Hid (Ints w6 xa s) := ia
      clear pa ia
      go_wp2_with fail
      refine (ok_spec _ IA.out).mono ?_
      rintro r w' ⟨rfl, hw⟩
      subst w'
      cases hk : decide (0 ≤ sizeV s)
      · go_wp2_with fail
        clear a0 a1
        have r0 := (RA6.out).c0
        have r1 := (RA6.out).c1
        have r2 := (RB6.out).c0
        have r3 := (RB6.out).c1
        have q0 := (ZA6.out).c0
        have q1 := (ZA6.out).c1
        have q2 := (ZB6.out).c0
        have q3 := (ZB6.out).c1
        have f0 : w6.frozen? ⟨w.heap.size, 0, none⟩ = false := free_at (RA6.out) 0
        have f1 : w6.frozen? ⟨w.heap.size, 1, none⟩ = false := free_at (RA6.out) 1
        have f2 : w6.frozen? ⟨w.heap.size + 1, 0, none⟩ = false := free_at (RB6.out) 0
        have f3 : w6.frozen? ⟨w.heap.size + 1, 1, none⟩ = false := free_at (RB6.out) 1
        have FE := two_end (RA6.out) (RB6.out) (AF.out) (CF.out) (HB6.out)
        have FX : Hid (_ ∧ _ ∧ _ ∧ _ ∧ _) := FE
        clear FE
        go_wp2
        go_region
        all_goals go_wp2
        all_goals
          refine bodyPost_ret (results_arr2 rfl _ _ w.heap.size (w.heap.size + 1) _ _ _ _ rfl rfl FX.out.1 FX.out.2.1) rfl ?_
          exact ⟨_, _, _, _, _, _, rfl, FX.out.2.2.1, FX.out.2.2.2.1, ⟨hls, hld, hlt, hlf⟩, FX.out.2.2.2.2.drew⟩
      · go_wp2_with fail
        refine (fill_draw HD6.out (SI.out.mono (by omega) (by omega)) hls).mono ?_
        rintro r w7 ⟨kx, ky, m, MM, rfl, ⟨m1, m2⟩, kp, kn, hml, hb, hd⟩
        obtain ⟨ka, kc, rfl, _⟩ := kp.ints
        obtain ⟨la, lc, rfl, _⟩ := kn.ints
        have kq := kn.piece
        have N7 : Hid (Arr w6.heap.size w7.heap.size w7 (.agg #[.slice ka s.length kc, .slice la m.length lc]) s m) := ⟨_, _, rfl, kp.mono (Nat.le_refl _) m2, kq.mono m1 (Nat.le_refl _), kp.apart kq (.inl (Nat.le_refl _))⟩
        have ZB7 : Hid (Box w7 w4.heap.size (.slice ua t.length uc) (.slice va f.length vc) 26) := boxBut ZB6.out hb (by omega)
        have ZA7 : Hid (Box w7 w2.heap.size (.slice xa s.length xc) (.slice ya d.length yc) 26) := boxBut ZA6.out hb (by omega)
        have RA7 : Hid (Box w7 w.heap.size (.slice none 0 0) (.slice none 0 0) 26) := boxBut RA6.out hb (by omega)
        have RB7 : Hid (Box w7 (w.heap.size + 1) (.slice none 0 0) (.slice none 0 0) 26) := boxBut RB6.out hb (by omega)
        have A7 : Hid (Arr w1.heap.size w2.heap.size w7 (.agg #[.slice xa s.length xc, .slice ya d.length yc]) s d) := A6.out.but hb (.inl hg1)
        have HB7 : Hid (Below w.heap.size w w7) := HB6.out.trans (hb.below (by omega) HB6.out.size)
        have SS7 := hb.size
        have ML : m.length ≤ 301 := by omega
        clear kp kn kq hb hd a0 a1
        have b0 := ZB7.out.c0
        have b1 := ZB7.out.c1
        have g0 : w7.frozen? ⟨w4.heap.size, 0, none⟩ = false := free_at ZB7.out 0
        have g1 : w7.frozen? ⟨w4.heap.size, 1, none⟩ = false := free_at ZB7.out 1
        go_wp2_with fail
        clear b0 b1 g0 g1
        generalize hW : (w7.setCell ⟨w4.heap.size, 0, none⟩ (.slice ka s.length kc)).setCell ⟨w4.heap.size, 1, none⟩ (.slice la m.length lc) = W8
        have WW : Hid (Win w4.heap.size (w4.heap.size + 1) w7 W8) := by rw [← hW]; exact (win_setCell _ _ _ _).trans (win_setCell _ _ _ _)
        have ZB8 : Hid (Box W8 w4.heap.size (.slice ka s.length kc) (.slice la m.length lc) 26) := by rw [← hW]; exact arr_stored (ZB7.out)
        have SW8 : Hid (W8.heap.size = w7.heap.size) := by rw [← hW]; show _ = _; simp [size_setCell]
        have RA8 : Hid (Box W8 w.heap.size (.slice none 0 0) (.slice none 0 0) 26) := (RA7.out).win WW.out (.inl (by omega))
        have RB8 : Hid (Box W8 (w.heap.size + 1) (.slice none 0 0) (.slice none 0 0) 26) := (RB7.out).win WW.out (.inl (by omega))
        have ZA8 : Hid (Box W8 w2.heap.size (.slice xa s.length xc) (.slice ya d.length yc) 26) := (ZA7.out).win WW.out (.inl (by omega))
        have A8 : Hid (Arr (w.heap.size + 2) W8.heap.size W8 (.agg #[.slice xa s.length xc, .slice ya d.length yc]) s d) := ((A7.out).win WW.out (.inl (by omega))).mono (by omega) (by have := SW8.out; omega)
        have C8 : Hid (Arr (w.heap.size + 2) W8.heap.size W8 (.agg #[.slice ka s.length kc, .slice la m.length lc]) s m) := ((N7.out).win WW.out (.inr (by omega))).mono (by omega) (by have := SW8.out; omega)
        have HB8 : Hid (Below w.heap.size w W8) := (HB7.out).trans (WW.out.below (by omega) (by have := (HB7.out).size; omega))
        clear hW
        have r0 := (RA8.out).c0
        have r1 := (RA8.out).c1
        have r2 := (RB8.out).c0
        have r3 := (RB8.out).c1
        have q0 := (ZA8.out).c0
        have q1 := (ZA8.out).c1
        have q2 := (ZB8.out).c0
        have q3 := (ZB8.out).c1
        have f0 : W8.frozen? ⟨w.heap.size, 0, none⟩ = false := free_at (RA8.out) 0
        have f1 : W8.frozen? ⟨w.heap.size, 1, none⟩ = false := free_at (RA8.out) 1
        have f2 : W8.frozen? ⟨w.heap.size + 1, 0, none⟩ = false := free_at (RB8.out) 0
        have f3 : W8.frozen? ⟨w.heap.size + 1, 1, none⟩ = false := free_at (RB8.out) 1
        have FE := two_end (RA8.out) (RB8.out) (A8.out) (C8.out) (HB8.out)
        have FX : Hid (_ ∧ _ ∧ _ ∧ _ ∧ _) := FE
        clear FE
        go_wp2
        go_region
        all_goals go_wp2
        all_goals
          refine bodyPost_ret (results_arr2 rfl _ _ w.heap.size (w.heap.size + 1) _ _ _ _ rfl rfl FX.out.1 FX.out.2.1) rfl ?_
          exact ⟨_, _, _, _, _, _, rfl, FX.out.2.2.1, FX.out.2.2.2.1, ⟨hls, hld, hls, ML⟩, FX.out.2.2.2.2.drew⟩
    · have n1 : (z == 1) = false := by simpa using h1
      go_wp2_with fail
      have r0 := (RA6.out).c0
      have r1 := (RA6.out).c1
      have r2 := (RB6.out).c0
      have r3 := (RB6.out).c1
      have q0 := (ZA6.out).c0
      have q1 := (ZA6.out).c1
      have q2 := (ZB6.out).c0
      have q3 := (ZB6.out).c1
      have f0 : w6.frozen? ⟨w.heap.size, 0, none⟩ = false := free_at (RA6.out) 0
      have f1 : w6.frozen? ⟨w.heap.size, 1, none⟩ = false := free_at (RA6.out) 1
      have f2 : w6.frozen? ⟨w.heap.size + 1, 0, none⟩ = false := free_at (RB6.out) 0
      have f3 : w6.frozen? ⟨w.heap.size + 1, 1, none⟩ = false := free_at (RB6.out) 1
      have FE := two_end (RA6.out) (RB6.out) (AF.out) (CF.out) (HB6.out)
      have FX : Hid (_ ∧ _ ∧ _ ∧ _ ∧ _) := FE
      clear FE
      go_wp2
      go_region
      all_goals go_wp2
      all_goals
        refine bodyPost_ret (results_arr2 rfl _ _ w.heap.size (w.heap.size + 1) _ _ _ _ rfl rfl FX.out.1 FX.out.2.1) rfl ?_
        exact ⟨_, _, _, _, _, _, rfl, FX.out.2.2.1, FX.out.2.2.2.1, ⟨hls, hld, hlt, hlf⟩, FX.out.2.2.2.2.drew⟩
end Go.Proofs.Ythjjjnapcbkhjaa
namespace Go.Proofs.Ythjjjnapcbkhjaa
open Go.RowKit
set_option linter.unusedVariables false
set_option linter.unusedSimpArgs false
/-- How an array that a call has left goes into the answer's cell. -/
theorem drawn_end {B g : Nat} {w w1 W : World} {x y : Value} {s d : List Int} (hR : w1.heap[w.heap.size]? = some (.cells #[.slice none 0 0, .slice none 0 0] 26 (0, 0))) (hg : g < w.heap.size) (h1 : But g w w1) (hA : Arr w1.heap.size W.heap.size W (.agg #[x, y]) s d) (hb : But g w1 W) (hd : DrawOk B g W) :
    W.heap[w.heap.size]? = some (.cells #[.slice none 0 0, .slice none 0 0] 26 (0, 0)) ∧
    ((W.setCell ⟨w.heap.size, 0, none⟩ x).setCell ⟨w.heap.size, 1, none⟩ y).heap[w.heap.size]? = some (.cells #[x, y] 26 (0, 0)) ∧
    Arr w.heap.size ((W.setCell ⟨w.heap.size, 0, none⟩ x).setCell ⟨w.heap.size, 1, none⟩ y).heap.size ((W.setCell ⟨w.heap.size, 0, none⟩ x).setCell ⟨w.heap.size, 1, none⟩ y) (.agg #[x, y]) s d ∧
    But g w ((W.setCell ⟨w.heap.size, 0, none⟩ x).setCell ⟨w.heap.size, 1, none⟩ y) ∧ DrawOk B g ((W.setCell ⟨w.heap.size, 0, none⟩ x).setCell ⟨w.heap.size, 1, none⟩ y) := by
  have S1 := lt_of_heapA hR
  have hR2 : W.heap[w.heap.size]? = some (.cells #[.slice none 0 0, .slice none 0 0] 26 (0, 0)) := (hb.block w.heap.size S1 (by omega)).trans hR
  obtain ⟨x', y', e, px, py, ap⟩ := hA
  cases e
  exact ⟨hR2, draw_end hR2 hg (px.mono (by omega) (Nat.le_refl _)) (py.mono (by omega) (Nat.le_refl _)) ap (h1.trans hb) hd⟩
set_option maxRecDepth 20000 in
set_option maxHeartbeats 2000000 in
/-- l5DrawN. -/
theorem drawN_draw {B g : Nat} {w : World} (hd : DrawOk B g w) (n : Int) :
    Calls Try.prog 36 #[.pointer (some ⟨g, 0, none⟩), .int .i64 n] w fun e w' => ∃ v s d, e = .returned v ∧ Arr w.heap.size w'.heap.size w' v s d ∧ s.length ≤ 4 ∧ d.length ≤ 301 ∧ But g w w' ∧ DrawOk B g w' := by
  have hg := hd.lt
  have HD : Hid (DrawOk B g (w.alloc (.cells #[.slice none 0 0, .slice none 0 0] 26))) := hd.alloc _
  have HR0 : Hid ((w.alloc (.cells #[.slice none 0 0, .slice none 0 0] 26)).heap[w.heap.size]? = some (.cells #[.slice none 0 0, .slice none 0 0] 26 (0, 0))) := heap_alloc_new w _
  have HB0 : Hid (But g w (w.alloc (.cells #[.slice none 0 0, .slice none 0 0] 26))) := (But.refl g w).alloc _
  clear hd
  go_enter Try.func36, Try.ntmps36
  go_wp2_with fail
  refine (below_small HD.out 9 (by decide) (by decide)).mono ?_
  rintro e w1 ⟨z, z0, z9, rfl, hb, hd⟩
  have HB1 : Hid (But g w w1) := HB0.out.trans hb
  have HR1 : Hid (w1.heap[w.heap.size]? = some (.cells #[.slice none 0 0, .slice none 0 0] 26 (0, 0))) := (hb.block w.heap.size (by simp) (by omega)).trans HR0.out
  have HD1 : Hid (DrawOk B g w1) := hd
  have S1 : Hid (w.heap.size < w1.heap.size) := lt_of_heapA HR1.out
  clear hb hd HB0 HR0 HD
  have FIN : Hid (∀ (W : World) (x y : Value) (s d : List Int), Arr w1.heap.size W.heap.size W (.agg #[x, y]) s d → But g w1 W → DrawOk B g W → _) := fun W x y s d h1 h2 h3 => drawn_end HR1.out hg HB1.out h1 h2 h3
  by_cases m0 : z = 0
  · subst m0
    go_wp2_with fail
    refine (draw_draw HD1.out).mono ?_
    rintro e w2 ⟨v, s, d, rfl, hA, hls, hld, hb, hd⟩
    obtain ⟨a1, c1, b1, o1, rfl, _, _, _, _⟩ := hA.arrI
    obtain ⟨hR2, q1, q2, q3, q4⟩ := FIN.out w2 _ _ s d hA hb hd
    have Q : Hid (_ ∧ _ ∧ _ ∧ _) := ⟨q1, q2, q3, q4⟩
    have k0 : w2.cell? ⟨w.heap.size, 0, none⟩ = some (.slice none 0 0) := cell_at hR2 rfl
    have k1 : w2.cell? ⟨w.heap.size, 1, none⟩ = some (.slice none 0 0) := cell_at hR2 rfl
    have f0 : w2.frozen? ⟨w.heap.size, 0, none⟩ = false := free_at hR2 0
    have f1 : w2.frozen? ⟨w.heap.size, 1, none⟩ = false := free_at hR2 1
    clear hA hb hd q1 q2 q3 q4 hR2
    go_wp2_with fail
    exact bodyPost_ret (v := .agg #[_, _]) (results_arr rfl _ _ w.heap.size _ _ rfl Q.out.1) rfl ⟨_, s, d, rfl, Q.out.2.1, hls, hld, Q.out.2.2.1, Q.out.2.2.2⟩
  by_cases m1 : z = 1
  · subst m1
    have HV : Hid (∀ (W : World) (p : Nat), OwnInts W p [n] → Calls Try.prog 40 #[.slice (some ⟨p, 0, none⟩) 1 1] W fun e w' => ∃ v, e = .returned v ∧ Arr W.heap.size w'.heap.size w' v [1] [n] ∧ Below W.heap.size W w') := fun W p h => vector_spec (l := [n]) 1 (OwnInts.ints h) (by simp)
    go_wp2_with fail
    refine (HV.out _ _ (heap_alloc_new w1 _)).mono ?_
    rintro e w2 ⟨v, rfl, hA, hb⟩
    obtain ⟨a1, c1, b1, o1, rfl, _, _, _, _⟩ := hA.arrI
    have hb1 : Below w1.heap.size w1 w2 := bTrans (bAlloc (Below.refl _ _) _) hb
    obtain ⟨hR2, q1, q2, q3, q4⟩ := FIN.out w2 _ _ _ _ (hA.mono (by simp) (Nat.le_refl _)) (But.of hb1) (HD1.out.but (But.of (g := w1.heap.size) hb1) (by have := S1.out; omega))
    have Q : Hid (_ ∧ _ ∧ _ ∧ _) := ⟨q1, q2, q3, q4⟩
    have k0 : w2.cell? ⟨w.heap.size, 0, none⟩ = some (.slice none 0 0) := cell_at hR2 rfl
    have k1 : w2.cell? ⟨w.heap.size, 1, none⟩ = some (.slice none 0 0) := cell_at hR2 rfl
    have f0 : w2.frozen? ⟨w.heap.size, 0, none⟩ = false := free_at hR2 0
    have f1 : w2.frozen? ⟨w.heap.size, 1, none⟩ = false := free_at hR2 1
    clear hA hb hb1 q1 q2 q3 q4 hR2
    go_wp2_with fail
    exact bodyPost_ret (v := .agg #[_, _]) (results_arr rfl _ _ w.heap.size _ _ rfl Q.out.1) rfl ⟨_, _, _, rfl, Q.out.2.1, by simp, by simp, Q.out.2.2.1, Q.out.2.2.2⟩
  · go_wp2_with fail
    refine (scalar_spec _ _).mono ?_
    rintro e w2 ⟨v, rfl, hA, hb⟩
    obtain ⟨a1, c1, b1, o1, rfl, _, _, _, _⟩ := hA.arrI
    obtain ⟨hR2, q1, q2, q3, q4⟩ := FIN.out w2 _ _ _ _ hA (But.of hb) (HD1.out.but (But.of (g := w1.heap.size) hb) (by have := S1.out; omega))
    have Q : Hid (_ ∧ _ ∧ _ ∧ _) := ⟨q1, q2, q3, q4⟩
    have k0 : w2.cell? ⟨w.heap.size, 0, none⟩ = some (.slice none 0 0) := cell_at hR2 rfl
    have k1 : w2.cell? ⟨w.heap.size, 1, none⟩ = some (.slice none 0 0) := cell_at hR2 rfl
    have f0 : w2.frozen? ⟨w.heap.size, 0, none⟩ = false := free_at hR2 0
    have f1 : w2.frozen? ⟨w.heap.size, 1, none⟩ = false := free_at hR2 1
    clear hA hb q1 q2 q3 q4 hR2
    go_wp2_with fail
    exact bodyPost_ret (v := .agg #[_, _]) (results_arr rfl _ _ w.heap.size _ _ rfl Q.out.1) rfl ⟨_, _, _, rfl, Q.out.2.1, by simp, by simp, Q.out.2.2.1, Q.out.2.2.2⟩
end Go.Proofs.Ythjjjnapcbkhjaa
namespace Go.Proofs.Ythjjjnapcbkhjaa
open Go.RowKit
set_option linter.unusedVariables false
set_option linter.unusedSimpArgs false
structure TwoB (B g : Nat) (w W : World) (qa qb : Nat) (x y x' y' : Value) (s d t f : List Int) : Prop where
  ra : Box W w.heap.size (.slice none 0 0) (.slice none 0 0) 26
  rb : Box W (w.heap.size + 1) (.slice none 0 0) (.slice none 0 0) 26
  za : Box W qa x y 26
  zb : Box W qb x' y' 26
  a : Arr (g + 1) qa W (.agg #[x, y]) s d
  c : Arr (g + 1) W.heap.size W (.agg #[x', y']) t f
  hg : w.heap.size + 2 ≤ g
  nea : g < qa
  nab : qa < qb
  len : s.length ≤ 4 ∧ d.length ≤ 301 ∧ t.length ≤ 4 ∧ f.length ≤ 301
  bl : Below w.heap.size w W
  ok : DrawOk B g W
theorem TwoB.but {B g : Nat} {w W W' : World} {qa qb : Nat} {x y x' y' : Value} {s d t f : List Int} (h : TwoB B g w W qa qb x y x' y' s d t f) (hb : But g W W') (hd : DrawOk B g W') : TwoB B g w W' qa qb x y x' y' s d t f := by
  have h2 := h.hg
  have h3 := h.nea
  have h4 := h.nab
  have h5 := h.bl.size
  exact ⟨boxBut h.ra hb (by omega), boxBut h.rb hb (by omega), boxBut h.za hb (by omega), boxBut h.zb hb (by omega), h.a.but hb (.inl (Nat.lt_succ_self _)), (h.c.but hb (.inl (Nat.lt_succ_self _))).mono (Nat.le_refl _) hb.size, h.hg, h.nea, h.nab, h.len, h.bl.trans (hb.below (by omega) h5), hd⟩
theorem TwoB.below {B g : Nat} {w W W' : World} {qa qb : Nat} {x y x' y' : Value} {s d t f : List Int} (h : TwoB B g w W qa qb x y x' y' s d t f) (hb : Below W.heap.size W W') : TwoB B g w W' qa qb x y x' y' s d t f := by
  have h3 := h.za.lt
  have h4 := h.nea
  exact h.but (But.of hb) (h.ok.but (But.of (g := W.heap.size) hb) (by omega))
theorem TwoB.putb {B g : Nat} {w W : World} {qa qb : Nat} {x y x' y' x2 y2 : Value} {s d t f t2 f2 : List Int} (h : TwoB B g w W qa qb x y x' y' s d t f) (hc : Arr (qb + 1) W.heap.size W (.agg #[x2, y2]) t2 f2) (l1 : t2.length ≤ 4) (l2 : f2.length ≤ 301) :
    TwoB B g w ((W.setCell ⟨qb, 0, none⟩ x2).setCell ⟨qb, 1, none⟩ y2) qa qb x y x2 y2 s d t2 f2 := by
  have h2 := h.hg
  have h3 := h.nea
  have h4 := h.nab
  have h5 := h.bl.size
  have C : But qb W ((W.setCell ⟨qb, 0, none⟩ x2).setCell ⟨qb, 1, none⟩ y2) := ((But.refl _ _).setCell 0 _).setCell 1 _
  exact ⟨boxBut h.ra C (by omega), boxBut h.rb C (by omega), boxBut h.za C (by omega), arr_stored h.zb, h.a.but C (.inr (by omega)), (hc.but C (.inl (Nat.lt_succ_self _))).mono (by omega) C.size, h.hg, h.nea, h.nab, ⟨h.len.1, h.len.2.1, l1, l2⟩, h.bl.trans (C.below (by omega) h5), h.ok.but C (by omega)⟩
end Go.Proofs.Ythjjjnapcbkhjaa
namespace Go.Proofs.Ythjjjnapcbkhjaa
open Go.RowKit
set_option linter.unusedVariables false
set_option linter.unusedSimpArgs false
structure TwoP (B g : Nat) (w W : World) (qa qb : Nat) (x y x' y' : Value) (s d t f : List Int) : Prop where
  ra : Box W w.heap.size (.slice none 0 0) (.slice none 0 0) 26
  rb : Box W (w.heap.size + 1) (.slice none 0 0) (.slice none 0 0) 26
  za : Box W qa x y 26
  zb : Box W qb x' y' 26
  a : Arr (g + 1) qa W (.agg #[x, y]) s d
  c : Arr (qa + 1) qb W (.agg #[x', y']) t f
  hg : w.heap.size + 2 ≤ g
  nea : g < qa
  nab : qa < qb
  len : s.length ≤ 4 ∧ d.length ≤ 301 ∧ t.length ≤ 4 ∧ f.length ≤ 301
  bl : Below w.heap.size w W
  ok : DrawOk B g W
theorem TwoP.but {B g : Nat} {w W W' : World} {qa qb : Nat} {x y x' y' : Value} {s d t f : List Int} (h : TwoP B g w W qa qb x y x' y' s d t f) (hb : But g W W') (hd : DrawOk B g W') : TwoP B g w W' qa qb x y x' y' s d t f := by
  have h2 := h.hg
  have h3 := h.nea
  have h4 := h.nab
  have h5 := h.bl.size
  exact ⟨boxBut h.ra hb (by omega), boxBut h.rb hb (by omega), boxBut h.za hb (by omega), boxBut h.zb hb (by omega), h.a.but hb (.inl (Nat.lt_succ_self _)), h.c.but hb (.inl (by omega)), h.hg, h.nea, h.nab, h.len, h.bl.trans (hb.below (by omega) h5), hd⟩
theorem TwoP.below {B g : Nat} {w W W' : World} {qa qb : Nat} {x y x' y' : Value} {s d t f : List Int} (h : TwoP B g w W qa qb x y x' y' s d t f) (hb : Below W.heap.size W W') : TwoP B g w W' qa qb x y x' y' s d t f := by
  have h3 := h.za.lt
  have h4 := h.nea
  exact h.but (But.of hb) (h.ok.but (But.of (g := W.heap.size) hb) (by omega))
theorem TwoP.toB {B g : Nat} {w W : World} {qa qb : Nat} {x y x' y' : Value} {s d t f : List Int} (h : TwoP B g w W qa qb x y x' y' s d t f) : TwoB B g w W qa qb x y x' y' s d t f := by
  have h3 := h.nea
  have h4 := h.zb.lt
  exact ⟨h.ra, h.rb, h.za, h.zb, h.a, h.c.mono (by omega) (by omega), h.hg, h.nea, h.nab, h.len, h.bl, h.ok⟩
/-- The block in which the second one's numbers lie. -/
theorem TwoP.at {B g : Nat} {w W : World} {qa qb k2 o2 n c k : Nat} {x y x' : Value} {s d t f : List Int} (h : TwoP B g w W qa qb x y x' (.slice (some ⟨k2, o2, none⟩) n c) s d t f) (hk : k < f.length) : W.cell? ⟨k2, o2 + k, none⟩ = some (.int .i64 (f.getD k 0)) ∧ W.frozen? ⟨k2, o2 + k, none⟩ = false ∧ qa + 1 ≤ k2 ∧ k2 < qb := by
  obtain ⟨_, _, ev, p1, p2, ap⟩ := h.c
  cases ev
  obtain ⟨t1, t2, t3, t4, t5⟩ := p2.cellAt hk
  exact ⟨t1, t2, t3, t4⟩
theorem TwoP.set {B g : Nat} {w W : World} {qa qb k2 o2 c k : Nat} {x y x' : Value} {s d t f : List Int} {n : Nat} (h : TwoP B g w W qa qb x y x' (.slice (some ⟨k2, o2, none⟩) n c) s d t f) (hn : f.length = n) (hk : k < n) (z : Int) :
    TwoP B g w (W.setCell ⟨k2, o2 + k, none⟩ (.int .i64 z)) qa qb x y x' (.slice (some ⟨k2, o2, none⟩) n c) s d t (f.set k z) := by
  subst hn
  obtain ⟨_, _, q3, q4⟩ := h.at hk
  have h2 := h.hg
  have h3 := h.nea
  have h4 := h.nab
  have h5 := h.bl.size
  obtain ⟨_, _, ev, p1, p2, ap⟩ := h.c
  cases ev
  have C : But k2 W (W.setCell ⟨k2, o2 + k, none⟩ (.int .i64 z)) := (But.refl _ _).setCell _ _
  refine ⟨boxBut h.ra C (by omega), boxBut h.rb C (by omega), boxBut h.za C (by omega), boxBut h.zb C (by omega), h.a.but C (.inr (by omega)), ⟨_, _, rfl, p1.only (only_setCell W k2 o2 f.length c k _ hk) ap.symm, p2.set hk z, ap⟩, h.hg, h.nea, h.nab, ?_, h.bl.trans (C.below (by omega) h5), h.ok.but C (by omega)⟩
  rw [List.length_set]
  exact h.len
/-- A number is drawn, whatever the bound. -/
theorem below_what {B g : Nat} {w : World} (hd : DrawOk B g w) (n : Int) :
    Calls Try.prog 38 #[.pointer (some ⟨g, 0, none⟩), .int .i64 n] w fun e w' => ∃ x : Int, e = .returned (.int .i64 x) ∧ But g w w' ∧ DrawOk B g w' := by
  by_cases h0 : n ≤ 0
  · have HD0 : Hid (DrawOk B g w) := hd
    clear hd
    go_enter Try.func38, Try.ntmps38
    go_wp2
    go_ret
    exact ⟨0, rfl, But.refl _ _, HD0.out⟩
  · refine (below_any hd n (by omega)).mono ?_
    rintro e w' ⟨x, _, _, r⟩
    exact ⟨x, r⟩
end Go.Proofs.Ythjjjnapcbkhjaa
namespace Go.Proofs.Ythjjjnapcbkhjaa
open Go.RowKit
set_option linter.unusedVariables false
theorem TwoP.upon {B g : Nat} {w W W' : World} {qa qb L : Nat} {x y x' y' : Value} {s d t f : List Int} (h : TwoP B g w W qa qb x y x' y' s d t f) (hb : Below L W W') (hq : qb < L) : TwoP B g w W' qa qb x y x' y' s d t f := by
  have h2 := h.hg
  have h3 := h.nea
  have h4 := h.nab
  have h5 := h.bl.size
  have bx : ∀ {q : Nat} {u v : Value}, Box W q u v 26 → q < L → Box W' q u v 26 := fun k hk => by unfold Box at *; rw [hb.block _ hk]; exact k
  have ar : ∀ {b c : Nat} {v : Value} {p q : List Int}, Arr b c W v p q → c ≤ L → Arr b c W' v p q := fun k hk => by
    obtain ⟨_, _, rfl, p1, p2, p3⟩ := k
    exact ⟨_, _, rfl, p1.belowC hb hk, p2.belowC hb hk, p3⟩
  exact ⟨bx h.ra (by omega), bx h.rb (by omega), bx h.za (by omega), bx h.zb hq, ar h.a (by omega), ar h.c (by omega), h.hg, h.nea, h.nab, h.len, h.bl.trans (hb.mono (by omega)), h.ok.keep (hb.mono (by have := h.ok.1; omega)) (hb.block g (by omega))⟩
end Go.Proofs.Ythjjjnapcbkhjaa
namespace Go.Proofs.Ythjjjnapcbkhjaa
open Go.RowKit
set_option linter.unusedVariables false
set_option linter.unusedSimpArgs false
set_option maxRecDepth 20000 in
set_option maxHeartbeats 4000000 in
/-- DrawCopy. -/
theorem drawCopy_spec {w : World} {a : Option Addr} {len cap : Nat} (hs : Src w.heap.size w a len) (hb20 : len ≤ 1048576) :
    Calls Try.prog 27 #[.slice a len cap] w fun e w' => ∃ v u s d t f, e = .returned (.tuple #[v, u]) ∧ Arr w.heap.size w'.heap.size w' v s d ∧ Arr w.heap.size w'.heap.size w' u t f ∧ (s.length ≤ 4 ∧ d.length ≤ 301 ∧ t.length ≤ 4 ∧ f.length ≤ 301) ∧ Below w.heap.size w w' := by
  obtain ⟨W0, hW0⟩ : ∃ x, x = (w.alloc (.cells #[.slice none 0 0, .slice none 0 0] 26)).alloc (.cells #[.slice none 0 0, .slice none 0 0] 26) := ⟨_, rfl⟩
  have HB0 : Hid (Below w.heap.size w W0) := by rw [hW0]; exact bAlloc (bAlloc (Below.refl _ _) _) _
  have HS : Hid (Src W0.heap.size W0 a len) := srcKeep hs HB0.out
  have RA0 : Hid (Box W0 w.heap.size (.slice none 0 0) (.slice none 0 0) 26) := by rw [hW0]; exact heap_alloc2_old w _ _
  have RB0 : Hid (Box W0 (w.heap.size + 1) (.slice none 0 0) (.slice none 0 0) 26) := by rw [hW0]; exact heap_alloc2_new w _ _
  have SW0 : W0.heap.size = w.heap.size + 2 := by rw [hW0]; simp
  clear hs
  go_enter Try.func27, Try.ntmps27
  go_wp2_with fail
  rw [← hW0]
  refine (new_spec HS.out hb20).mono ?_
  rintro e w1 ⟨g, rfl, hb, hd⟩
  have HB1 : Hid (Below w.heap.size w w1) := bTrans HB0.out hb
  have RA1 : Hid (Box w1 w.heap.size (.slice none 0 0) (.slice none 0 0) 26) := RA0.out.keep hb
  have RB1 : Hid (Box w1 (w.heap.size + 1) (.slice none 0 0) (.slice none 0 0) 26) := RB0.out.keep hb
  have HD1 : Hid (DrawOk W0.heap.size g w1) := hd
  have hg0 : w.heap.size + 2 ≤ g := by have := hd.1; omega
  have hg1 := hd.lt
  clear hb hd hW0 RA0 RB0 HB0
  go_wp2_with fail
  refine (draw_draw HD1.out).mono ?_
  rintro e w2 ⟨v, s, d, rfl, hA, hls, hld, hb, hd⟩
  obtain ⟨px, py, rfl, pp, pq, ap⟩ := hA
  obtain ⟨xa, xc, hx, _⟩ := pp.ints
  obtain ⟨ya, yc, hy, _⟩ := pq.ints
  subst hx hy
  have B2 : Hid (But g w1 w2) := hb
  have A2 : Hid (Arr w1.heap.size w2.heap.size w2 (.agg #[.slice xa s.length xc, .slice ya d.length yc]) s d) := ⟨_, _, rfl, pp, pq, ap⟩
  have HD2 : Hid (DrawOk W0.heap.size g w2) := hd
  have S2 : Hid (w1.heap.size ≤ w2.heap.size) := hb.size
  clear hb hd pp pq ap
  go_wp2_with fail
  generalize hW : w2.alloc (.cells #[.slice xa s.length xc, .slice ya d.length yc] 26) = W3
  have ZA : Hid (Box W3 w2.heap.size (.slice xa s.length xc) (.slice ya d.length yc) 26) := by rw [← hW]; exact box_new w2 _ _ _
  have BW3 : Hid (Below w2.heap.size w2 W3) := by rw [← hW]; exact bAlloc (Below.refl _ _) _
  have HD3 : Hid (DrawOk W0.heap.size g W3) := by rw [← hW]; exact HD2.out.alloc _
  clear hW
  refine (below_small HD3.out 4 (by decide) (by decide)).mono ?_
  rintro e w4 ⟨x, x0, x4, rfl, hb, hd⟩
  have B34 : Hid (But g W3 w4) := hb
  have HD4 : Hid (DrawOk W0.heap.size g w4) := hd
  have S4 : Hid (W3.heap.size ≤ w4.heap.size) := hb.size
  clear hb hd
  go_wp2_with fail
  refine (scalar_spec _ _).mono ?_
  rintro e w5 ⟨vs, rfl, hA, hb⟩
  obtain ⟨ua, uc, va, vc, rfl, _, _, _, _⟩ := hA.arrI
  obtain ⟨W6, hW6⟩ : ∃ y, y = w5.alloc (.cells #[.slice ua 0 uc, .slice va 1 vc] 26) := ⟨_, rfl⟩
  have SS2 := S2.out
  have S3 : Hid (w2.heap.size < W3.heap.size) := ZA.out.lt
  have ST6 : Hid (TwoP W0.heap.size g w W6 w2.heap.size w5.heap.size (.slice xa s.length xc) (.slice ya d.length yc) (.slice ua 0 uc) (.slice va 1 vc) s d [] [x]) := by
    have B56 : Below w5.heap.size w5 W6 := by rw [hW6]; exact bAlloc (Below.refl _ _) _
    have SS3 := S3.out
    have SS4 := S4.out
    have S5 := hb.size
    have S6 := B56.size
    have z4 := HB1.out.size
    have BX : Below w4.heap.size w4 W6 := bTrans hb B56
    have A4 : Arr w1.heap.size w2.heap.size w4 (.agg #[.slice xa s.length xc, .slice ya d.length yc]) s d := (A2.out.keep BW3.out).but B34.out (.inl hg1)
    have ra := (boxBut ((boxBut RA1.out B2.out (by omega)).keep BW3.out) B34.out (by omega)).keep BX
    have rb := (boxBut ((boxBut RB1.out B2.out (by omega)).keep BW3.out) B34.out (by omega)).keep BX
    have za := (boxBut ZA.out B34.out (by omega)).keep BX
    have ok6 : DrawOk W0.heap.size g W6 := HD4.out.but (But.of (g := w4.heap.size) BX) (by omega)
    have HB4 : Below w.heap.size w w4 := (bTrans (HB1.out.trans (B2.out.below (by omega) HB1.out.size)) BW3.out).trans (B34.out.below (by omega) (by omega))
    exact ⟨ra, rb, za, by rw [hW6]; exact box_new w5 _ _ _, (A4.keep BX).mono (by omega) (Nat.le_refl _), (hA.keep B56).mono (by omega) (Nat.le_refl _), hg0, by omega, by omega, ⟨hls, hld, by simp, by simp⟩, bTrans HB4 BX, ok6⟩
  have HLS : Hid (s.length ≤ 4) := hls
  clear hA hb A2 ZA RA1 RB1 HB1 HD1 HD2 HD3 HD4 BW3 B2 B34 S2 S3 S4 hls hld
  have y0 : (w5.alloc (.cells #[.slice ua 0 uc, .slice va 1 vc] 26)).cell? ⟨w2.heap.size, 0, none⟩ = some (.slice xa s.length xc) := by rw [← hW6]; exact ST6.out.za.c0
  by_cases h0 : s.length = 0
  · have hl0 : ¬ (0 : Int) < (s.length : Int) := by omega
    have hlb : decide ((0 : Int) < (s.length : Int)) = false := by simpa using hl0
    clear h0
    go_wp2_with fail
    rw [← hW6]
    clear y0 hW6
    refine (below_small ST6.out.ok 15 (by decide) (by decide)).mono ?_
    rintro e wA ⟨z, z0, z15, rfl, hb, hd⟩
    have TA : Hid (TwoB W0.heap.size g w wA w2.heap.size w5.heap.size (.slice xa s.length xc) (.slice ya d.length yc) (.slice ua 0 uc) (.slice va 1 vc) s d [] [x]) := ST6.out.toB.but hb hd
    clear hb hd ST6
    by_cases m0 : z = 0
    · subst m0
      go_wp2_with fail
      refine (draw_draw TA.out.ok).mono ?_
      rintro e wB ⟨v, t2, f2, rfl, hA, l1, l2, hb, hd⟩
      obtain ⟨ma, mc, na, nc, rfl, _, _, _, _⟩ := hA.arrI
      have TB : Hid (TwoB W0.heap.size g w wB w2.heap.size w5.heap.size (.slice xa s.length xc) (.slice ya d.length yc) (.slice ua 0 uc) (.slice va 1 vc) s d [] [x]) := TA.out.but hb hd
      have TC : Hid (TwoB W0.heap.size g w ((wB.setCell ⟨w5.heap.size, 0, none⟩ (.slice ma t2.length mc)).setCell ⟨w5.heap.size, 1, none⟩ (.slice na f2.length nc)) w2.heap.size w5.heap.size (.slice xa s.length xc) (.slice ya d.length yc) (.slice ma t2.length mc) (.slice na f2.length nc) s d t2 f2) := TB.out.putb (hA.mono (by have := TA.out.zb.lt; omega) (Nat.le_refl _)) l1 l2
      have b0 := TB.out.zb.c0
      have b1 := TB.out.zb.c1
      have g0 : wB.frozen? ⟨w5.heap.size, 0, none⟩ = false := free_at TB.out.zb 0
      have g1 : wB.frozen? ⟨w5.heap.size, 1, none⟩ = false := free_at TB.out.zb 1
      clear hA hb hd TA
      go_wp2_with fail
      clear b0 b1 g0 g1 TB
      generalize (wB.setCell ⟨w5.heap.size, 0, none⟩ (.slice ma t2.length mc)).setCell ⟨w5.heap.size, 1, none⟩ (.slice na f2.length nc) = WC at *
      have r0 := TC.out.ra.c0
      have r1 := TC.out.ra.c1
      have r2 := TC.out.rb.c0
      have r3 := TC.out.rb.c1
      have q0 := TC.out.za.c0
      have q1 := TC.out.za.c1
      have q2 := TC.out.zb.c0
      have q3 := TC.out.zb.c1
      have f0 : WC.frozen? ⟨w.heap.size, 0, none⟩ = false := free_at TC.out.ra 0
      have f1 : WC.frozen? ⟨w.heap.size, 1, none⟩ = false := free_at TC.out.ra 1
      have f2 : WC.frozen? ⟨w.heap.size + 1, 0, none⟩ = false := free_at TC.out.rb 0
      have f3 : WC.frozen? ⟨w.heap.size + 1, 1, none⟩ = false := free_at TC.out.rb 1
      have FX : Hid (_ ∧ _ ∧ _ ∧ _ ∧ _) := two_end TC.out.ra TC.out.rb (TC.out.c.mono (by have := TC.out.hg; omega) (Nat.le_refl _)) (TC.out.a.mono (by have := TC.out.hg; omega) (by have := TC.out.za.lt; omega)) TC.out.bl
      go_wp2
      go_region
      all_goals go_wp2
      all_goals
        refine bodyPost_ret (results_arr2 rfl _ _ w.heap.size (w.heap.size + 1) _ _ _ _ rfl rfl FX.out.1 FX.out.2.1) rfl ?_
        exact ⟨_, _, _, _, _, _, rfl, FX.out.2.2.1, FX.out.2.2.2.1, ⟨TC.out.len.2.2.1, TC.out.len.2.2.2, TC.out.len.1, TC.out.len.2.1⟩, FX.out.2.2.2.2.drew⟩
    · have hz0 : (z == 0) = false := by simpa using m0
      by_cases m1 : z = 1
      · subst m1
        go_wp2_with fail
        refine (pick_spec (B := W0.heap.size) (g := g) (gl := wA.heap.size) (TA.out.ok.alloc _) 4 4 (by decide) (by decide) (by have := TA.out.zb.lt; have := TA.out.nea; have := TA.out.nab; omega) (by simp) (nums_alloc wA [(-1 : Int), 100, 1000000000000, 0] _) rfl).mono ?_
        rintro e wD ⟨x9, rfl, hb, hd, hm⟩
        have TD : Hid (TwoB W0.heap.size g w wD w2.heap.size w5.heap.size (.slice xa s.length xc) (.slice ya d.length yc) (.slice ua 0 uc) (.slice va 1 vc) s d [] [x]) := (TA.out.below (bAlloc (Below.refl _ _) _)).but hb hd
        clear hb hd hm TA
        go_wp2_with fail
        refine (scalar_spec _ _).mono ?_
        rintro e wB ⟨v, rfl, hA, hb⟩
        obtain ⟨ma, mc, na, nc, rfl, _, _, _, _⟩ := hA.arrI
        have TB : Hid (TwoB W0.heap.size g w wB w2.heap.size w5.heap.size (.slice xa s.length xc) (.slice ya d.length yc) (.slice ua 0 uc) (.slice va 1 vc) s d [] [x]) := TD.out.below hb
        have TC : Hid (TwoB W0.heap.size g w ((wB.setCell ⟨w5.heap.size, 0, none⟩ (.slice ma ([] : List Int).length mc)).setCell ⟨w5.heap.size, 1, none⟩ (.slice na [x9].length nc)) w2.heap.size w5.heap.size (.slice xa s.length xc) (.slice ya d.length yc) (.slice ma ([] : List Int).length mc) (.slice na [x9].length nc) s d [] [x9]) := TB.out.putb (hA.mono (by have := TD.out.zb.lt; omega) (Nat.le_refl _)) (by simp) (by simp)
        have b0 := TB.out.zb.c0
        have b1 := TB.out.zb.c1
        have g0 : wB.frozen? ⟨w5.heap.size, 0, none⟩ = false := free_at TB.out.zb 0
        have g1 : wB.frozen? ⟨w5.heap.size, 1, none⟩ = false := free_at TB.out.zb 1
        clear hA hb TD
        go_wp2_with fail
        clear b0 b1 g0 g1 TB
        generalize (wB.setCell ⟨w5.heap.size, 0, none⟩ (.slice ma ([] : List Int).length mc)).setCell ⟨w5.heap.size, 1, none⟩ (.slice na [x9].length nc) = WC at *
        have r0 := TC.out.ra.c0
        have r1 := TC.out.ra.c1
        have r2 := TC.out.rb.c0
        have r3 := TC.out.rb.c1
        have q0 := TC.out.za.c0
        have q1 := TC.out.za.c1
        have q2 := TC.out.zb.c0
        have q3 := TC.out.zb.c1
        have f0 : WC.frozen? ⟨w.heap.size, 0, none⟩ = false := free_at TC.out.ra 0
        have f1 : WC.frozen? ⟨w.heap.size, 1, none⟩ = false := free_at TC.out.ra 1
        have f2 : WC.frozen? ⟨w.heap.size + 1, 0, none⟩ = false := free_at TC.out.rb 0
        have f3 : WC.frozen? ⟨w.heap.size + 1, 1, none⟩ = false := free_at TC.out.rb 1
        have FX : Hid (_ ∧ _ ∧ _ ∧ _ ∧ _) := two_end TC.out.ra TC.out.rb (TC.out.c.mono (by have := TC.out.hg; omega) (Nat.le_refl _)) (TC.out.a.mono (by have := TC.out.hg; omega) (by have := TC.out.za.lt; omega)) TC.out.bl
        go_wp2
        go_region
        all_goals go_wp2
        all_goals
          refine bodyPost_ret (results_arr2 rfl _ _ w.heap.size (w.heap.size + 1) _ _ _ _ rfl rfl FX.out.1 FX.out.2.1) rfl ?_
          exact ⟨_, _, _, _, _, _, rfl, FX.out.2.2.1, FX.out.2.2.2.1, ⟨TC.out.len.2.2.1, TC.out.len.2.2.2, TC.out.len.1, TC.out.len.2.1⟩, FX.out.2.2.2.2.drew⟩
      · have hz1 : (z == 1) = false := by simpa using m1
        have r0 := TA.out.ra.c0
        have r1 := TA.out.ra.c1
        have r2 := TA.out.rb.c0
        have r3 := TA.out.rb.c1
        have q0 := TA.out.za.c0
        have q1 := TA.out.za.c1
        have q2 := TA.out.zb.c0
        have q3 := TA.out.zb.c1
        have f0 : wA.frozen? ⟨w.heap.size, 0, none⟩ = false := free_at TA.out.ra 0
        have f1 : wA.frozen? ⟨w.heap.size, 1, none⟩ = false := free_at TA.out.ra 1
        have f2 : wA.frozen? ⟨w.heap.size + 1, 0, none⟩ = false := free_at TA.out.rb 0
        have f3 : wA.frozen? ⟨w.heap.size + 1, 1, none⟩ = false := free_at TA.out.rb 1
        have FX : Hid (_ ∧ _ ∧ _ ∧ _ ∧ _) := two_end TA.out.ra TA.out.rb (TA.out.c.mono (by have := TA.out.hg; omega) (Nat.le_refl _)) (TA.out.a.mono (by have := TA.out.hg; omega) (by have := TA.out.za.lt; omega)) TA.out.bl
        go_wp2
        go_region
        all_goals go_wp2
        all_goals
          refine bodyPost_ret (results_arr2 rfl _ _ w.heap.size (w.heap.size + 1) _ _ _ _ rfl rfl FX.out.1 FX.out.2.1) rfl ?_
          exact ⟨_, _, _, _, _, _, rfl, FX.out.2.2.1, FX.out.2.2.2.1, ⟨TA.out.len.2.2.1, TA.out.len.2.2.2, TA.out.len.1, TA.out.len.2.1⟩, FX.out.2.2.2.2.drew⟩
  · have hl0 : (0 : Int) < (s.length : Int) := by omega
    have hlb : decide ((0 : Int) < (s.length : Int)) = true := by simpa using hl0
    have hl1 : 0 < s.length := by omega
    obtain ⟨_, _, _, _, ev, ii, _, _, _⟩ := ST6.out.a.arrI
    cases ev
    obtain ⟨xb, xo, rfl, hxb, cx⟩ := ii.at hl1
    have cy : (w5.alloc (.cells #[.slice ua 0 uc, .slice va 1 vc] 26)).cell? ⟨xb, xo, none⟩ = some (.int .i64 (s.getD 0 0)) := by rw [← hW6]; simpa using cx
    have II : Hid (Ints W6 (some ⟨xb, xo, none⟩) s) := ii
    generalize hsz : s.getD 0 0 = sz at *
    have HZ : Hid (s.getD 0 0 = sz) := hsz
    clear h0 ii cx hsz
    by_cases hin : 0 ≤ sz ∧ sz ≤ 20
    · have hq : (decide ((0 : Int) ≤ sz) && decide (sz ≤ 20)) = true := by simp; exact hin
      go_wp2_with (go_at_call 56; refine (in_spec _ _ _ _).mono ?_; rintro e w' ⟨rfl, hw⟩; subst w'; rw [hq])
      rw [← hW6]
      refine (once_spec ST6.out.ok 4 (by decide) (by decide)).mono ?_
      rintro e w7 ⟨bo, rfl, hb, hd⟩
      have ST7 : Hid (TwoP W0.heap.size g w w7 w2.heap.size w5.heap.size (.slice (some ⟨xb, xo, none⟩) s.length xc) (.slice ya d.length yc) (.slice ua 0 uc) (.slice va 1 vc) s d [] [x]) := ST6.out.but hb hd
      have I7 : Hid (Ints w7 (some ⟨xb, xo, none⟩) s) := by
        obtain ⟨_, _, _, _, ev, ii, _, _, _⟩ := ST7.out.a.arrI
        cases ev
        exact ii
      clear hb hd y0 cy hW6 II ST6
      cases bo
      · go_wp2_with fail
        generalize hWL : w7.alloc (.cells #[] 3) = WL
        have BL : Hid (Below w7.heap.size w7 WL) := by rw [← hWL]; exact bAlloc (Below.refl _ _) _
        have N0 : Hid (NewInts w7.heap.size WL (.slice (some ⟨w7.heap.size, 0, none⟩) 0 0) []) := by rw [← hWL]; exact newInts_alloc w7 [] (Nat.le_refl _) (by simp)
        have STL : Hid (TwoP W0.heap.size g w WL w2.heap.size w5.heap.size (.slice (some ⟨xb, xo, none⟩) s.length xc) (.slice ya d.length yc) (.slice ua 0 uc) (.slice va 1 vc) s d [] [x]) := ST7.out.below BL.out
        have SLL : Hid (w7.heap.size ≤ WL.heap.size) := BL.out.size
        have G7 : Hid (g < w7.heap.size) := ST7.out.ok.lt
        have Q7 : Hid (w5.heap.size < w7.heap.size) := ST7.out.zb.lt
        clear hWL I7 ST7
        obtain ⟨sn, rfl⟩ : ∃ sn : Nat, sz = sn := ⟨sz.toNat, by omega⟩
        go_loopw [7, 8] (fun v q w' => ∃ (k : Nat) (m : List Int), k ≤ sn ∧ q = .int .i64 (k : Int) ∧ m.length = k ∧ NewInts w7.heap.size w' v m ∧ TwoP W0.heap.size g w w' w2.heap.size w5.heap.size (.slice (some ⟨xb, xo, none⟩) s.length xc) (.slice ya d.length yc) (.slice ua 0 uc) (.slice va 1 vc) s d [] [x] ∧ w7.heap.size ≤ w'.heap.size) (fun _ q _ => sn - (intOf q).toNat)
        case atStart => exact ⟨0, [], by omega, rfl, rfl, N0.out, STL.out, SLL.out⟩
        case round =>
          obtain ⟨k, m, hk, rfl, hm, hn, hst, hsw⟩ := hrel
          have HM : Hid (m.length = k) := hm
          have HN : Hid (NewInts w7.heap.size wr u7 m) := hn
          have HST : Hid (TwoP W0.heap.size g w wr w2.heap.size w5.heap.size (.slice (some ⟨xb, xo, none⟩) s.length xc) (.slice ya d.length yc) (.slice ua 0 uc) (.slice va 1 vc) s d [] [x]) := hst
          have HSW : Hid (w7.heap.size ≤ wr.heap.size) := hsw
          obtain ⟨_, _, _, _, ev, ii, _, _, _⟩ := hst.a.arrI
          cases ev
          obtain ⟨_, _, e9, _, cx⟩ := ii.at hl1
          cases e9
          rw [HZ.out] at cx
          have cx' : wr.cell? ⟨xb, xo, none⟩ = some (.int .i64 (sn : Int)) := by simpa using cx
          have z0 := hst.za.c0
          clear hm hn hst ii hsw cx
          by_cases hlt : (k : Int) < (sn : Int)
          · go_wp2_with fail
            refine (below_small HST.out.ok 3 (by decide) (by decide)).mono ?_
            rintro e w8 ⟨y, y0, y3, rfl, hb, hd⟩
            have ST8 : Hid (TwoP W0.heap.size g w w8 w2.heap.size w5.heap.size (.slice (some ⟨xb, xo, none⟩) s.length xc) (.slice ya d.length yc) (.slice ua 0 uc) (.slice va 1 vc) s d [] [x]) := HST.out.but hb hd
            have N8 : Hid (NewInts w7.heap.size w8 u7 m) := HN.out.but hb (by have := G7.out; omega)
            have S8 : Hid (w7.heap.size ≤ w8.heap.size) := Nat.le_trans HSW.out hb.size
            clear hb hd z0 cx' HST HN
            obtain ⟨a', c', w9, hrun, hN2, hB2⟩ := grow1 y N8.out S8.out (by have := HM.out; omega)
            have RUN : Hid (_ = _) := hrun
            have ST9 : Hid (TwoP W0.heap.size g w w9 w2.heap.size w5.heap.size (.slice (some ⟨xb, xo, none⟩) s.length xc) (.slice ya d.length yc) (.slice ua 0 uc) (.slice va 1 vc) s d [] [x]) := by
              have q1 := G7.out
              have q2 := Q7.out
              have q3 := S8.out
              have hB3 : Below w7.heap.size w8 w9 := hB2
              exact ST8.out.upon hB3 q2
            have N9 : Hid (NewInts w7.heap.size w9 (.slice a' (m.length + 1) c') (m ++ [y])) := hN2
            have S9 : Hid (w7.heap.size ≤ w9.heap.size) := Nat.le_trans S8.out hB2.size
            clear hrun hN2 hB2 ST8 N8
            go_wp2_with (at_builtin; refine wpList_append_ty rfl _ _ 24 24 rfl _ _ _ rfl rfl RUN.out ?_)
            go_roundw
            case rel => exact ⟨k + 1, m ++ [y], by omega, by go_num, by rw [List.length_append, HM.out]; rfl, N9.out, ST9.out, S9.out⟩
            case measure => simp [intOf]; omega
          · obtain ⟨la, lc, ev, il⟩ := HN.out.ints
            subst ev
            have IL : Hid (Ints wr la m) := il
            have HML : Hid (m.length ≤ 20) := by have := HM.out; show _ ≤ _; omega
            clear il HN
            go_wp2_with fail
            refine (vector_spec lc IL.out (by have := HML.out; omega)).mono ?_
            rintro e wB ⟨v, rfl, hA, hb⟩
            obtain ⟨pa, pc, ra, rc, rfl, _, _, _, _⟩ := hA.arrI
            have TB : Hid (TwoB W0.heap.size g w wB w2.heap.size w5.heap.size (.slice (some ⟨xb, xo, none⟩) s.length xc) (.slice ya d.length yc) (.slice ua 0 uc) (.slice va 1 vc) s d [] [x]) := (HST.out.below hb).toB
            have TC : Hid (TwoB W0.heap.size g w ((wB.setCell ⟨w5.heap.size, 0, none⟩ (.slice pa [(m.length : Int)].length pc)).setCell ⟨w5.heap.size, 1, none⟩ (.slice ra m.length rc)) w2.heap.size w5.heap.size (.slice (some ⟨xb, xo, none⟩) s.length xc) (.slice ya d.length yc) (.slice pa [(m.length : Int)].length pc) (.slice ra m.length rc) s d [(m.length : Int)] m) := TB.out.putb (hA.mono (by have := HST.out.zb.lt; omega) (Nat.le_refl _)) (by simp) (by have := HML.out; omega)
            have b0 := TB.out.zb.c0
            have b1 := TB.out.zb.c1
            have g0 : wB.frozen? ⟨w5.heap.size, 0, none⟩ = false := free_at TB.out.zb 0
            have g1 : wB.frozen? ⟨w5.heap.size, 1, none⟩ = false := free_at TB.out.zb 1
            clear hA hb HST
            go_wp2_with fail
            clear b0 b1 g0 g1 TB
            generalize (wB.setCell ⟨w5.heap.size, 0, none⟩ (.slice pa [(m.length : Int)].length pc)).setCell ⟨w5.heap.size, 1, none⟩ (.slice ra m.length rc) = WC at *
            refine (below_small TC.out.ok 15 (by decide) (by decide)).mono ?_
            rintro e wA ⟨z, z0, z15, rfl, hb, hd⟩
            have TA : Hid (TwoB W0.heap.size g w wA w2.heap.size w5.heap.size (.slice (some ⟨xb, xo, none⟩) s.length xc) (.slice ya d.length yc) (.slice pa [(m.length : Int)].length pc) (.slice ra m.length rc) s d [(m.length : Int)] m) := TC.out.but hb hd
            clear hb hd TC
            by_cases m0 : z = 0
            · subst m0
              go_wp2_with fail
              refine (draw_draw TA.out.ok).mono ?_
              rintro e wB ⟨v, t2, f2, rfl, hA, l1, l2, hb, hd⟩
              obtain ⟨ma, mc, na, nc, rfl, _, _, _, _⟩ := hA.arrI
              have TB : Hid (TwoB W0.heap.size g w wB w2.heap.size w5.heap.size (.slice (some ⟨xb, xo, none⟩) s.length xc) (.slice ya d.length yc) (.slice pa [(m.length : Int)].length pc) (.slice ra m.length rc) s d [(m.length : Int)] m) := TA.out.but hb hd
              have TE : Hid (TwoB W0.heap.size g w ((wB.setCell ⟨w5.heap.size, 0, none⟩ (.slice ma t2.length mc)).setCell ⟨w5.heap.size, 1, none⟩ (.slice na f2.length nc)) w2.heap.size w5.heap.size (.slice (some ⟨xb, xo, none⟩) s.length xc) (.slice ya d.length yc) (.slice ma t2.length mc) (.slice na f2.length nc) s d t2 f2) := TB.out.putb (hA.mono (by have := TA.out.zb.lt; omega) (Nat.le_refl _)) l1 l2
              have b0 := TB.out.zb.c0
              have b1 := TB.out.zb.c1
              have g0 : wB.frozen? ⟨w5.heap.size, 0, none⟩ = false := free_at TB.out.zb 0
              have g1 : wB.frozen? ⟨w5.heap.size, 1, none⟩ = false := free_at TB.out.zb 1
              clear hA hb hd TA
              go_wp2_with fail
              clear b0 b1 g0 g1 TB
              generalize (wB.setCell ⟨w5.heap.size, 0, none⟩ (.slice ma t2.length mc)).setCell ⟨w5.heap.size, 1, none⟩ (.slice na f2.length nc) = WE at *
              have r0 := TE.out.ra.c0
              have r1 := TE.out.ra.c1
              have r2 := TE.out.rb.c0
              have r3 := TE.out.rb.c1
              have q0 := TE.out.za.c0
              have q1 := TE.out.za.c1
              have q2 := TE.out.zb.c0
              have q3 := TE.out.zb.c1
              have f0 : WE.frozen? ⟨w.heap.size, 0, none⟩ = false := free_at TE.out.ra 0
              have f1 : WE.frozen? ⟨w.heap.size, 1, none⟩ = false := free_at TE.out.ra 1
              have f2 : WE.frozen? ⟨w.heap.size + 1, 0, none⟩ = false := free_at TE.out.rb 0
              have f3 : WE.frozen? ⟨w.heap.size + 1, 1, none⟩ = false := free_at TE.out.rb 1
              have FX : Hid (_ ∧ _ ∧ _ ∧ _ ∧ _) := two_end TE.out.ra TE.out.rb (TE.out.c.mono (by have := TE.out.hg; omega) (Nat.le_refl _)) (TE.out.a.mono (by have := TE.out.hg; omega) (by have := TE.out.za.lt; omega)) TE.out.bl
              go_wp2
              go_region
              all_goals go_wp2
              all_goals
                refine bodyPost_ret (results_arr2 rfl _ _ w.heap.size (w.heap.size + 1) _ _ _ _ rfl rfl FX.out.1 FX.out.2.1) rfl ?_
                exact ⟨_, _, _, _, _, _, rfl, FX.out.2.2.1, FX.out.2.2.2.1, ⟨TE.out.len.2.2.1, TE.out.len.2.2.2, TE.out.len.1, TE.out.len.2.1⟩, FX.out.2.2.2.2.drew⟩
            · have hz0 : (z == 0) = false := by simpa using m0
              by_cases m1 : z = 1
              · subst m1
                go_wp2_with fail
                refine (pick_spec (B := W0.heap.size) (g := g) (gl := wA.heap.size) (TA.out.ok.alloc _) 4 4 (by decide) (by decide) (by have := TA.out.zb.lt; have := TA.out.nea; have := TA.out.nab; omega) (by simp) (nums_alloc wA [(-1 : Int), 100, 1000000000000, 0] _) rfl).mono ?_
                rintro e wD ⟨x9, rfl, hb, hd, hm⟩
                have TD : Hid (TwoB W0.heap.size g w wD w2.heap.size w5.heap.size (.slice (some ⟨xb, xo, none⟩) s.length xc) (.slice ya d.length yc) (.slice pa [(m.length : Int)].length pc) (.slice ra m.length rc) s d [(m.length : Int)] m) := (TA.out.below (bAlloc (Below.refl _ _) _)).but hb hd
                clear hb hd hm TA
                go_wp2_with fail
                refine (scalar_spec _ _).mono ?_
                rintro e wB ⟨v, rfl, hA, hb⟩
                obtain ⟨ma, mc, na, nc, rfl, _, _, _, _⟩ := hA.arrI
                have TB : Hid (TwoB W0.heap.size g w wB w2.heap.size w5.heap.size (.slice (some ⟨xb, xo, none⟩) s.length xc) (.slice ya d.length yc) (.slice pa [(m.length : Int)].length pc) (.slice ra m.length rc) s d [(m.length : Int)] m) := TD.out.below hb
                have TE : Hid (TwoB W0.heap.size g w ((wB.setCell ⟨w5.heap.size, 0, none⟩ (.slice ma ([] : List Int).length mc)).setCell ⟨w5.heap.size, 1, none⟩ (.slice na [x9].length nc)) w2.heap.size w5.heap.size (.slice (some ⟨xb, xo, none⟩) s.length xc) (.slice ya d.length yc) (.slice ma ([] : List Int).length mc) (.slice na [x9].length nc) s d [] [x9]) := TB.out.putb (hA.mono (by have := TD.out.zb.lt; omega) (Nat.le_refl _)) (by simp) (by simp)
                have b0 := TB.out.zb.c0
                have b1 := TB.out.zb.c1
                have g0 : wB.frozen? ⟨w5.heap.size, 0, none⟩ = false := free_at TB.out.zb 0
                have g1 : wB.frozen? ⟨w5.heap.size, 1, none⟩ = false := free_at TB.out.zb 1
                clear hA hb TD
                go_wp2_with fail
                clear b0 b1 g0 g1 TB
                generalize (wB.setCell ⟨w5.heap.size, 0, none⟩ (.slice ma ([] : List Int).length mc)).setCell ⟨w5.heap.size, 1, none⟩ (.slice na [x9].length nc) = WE at *
                have r0 := TE.out.ra.c0
                have r1 := TE.out.ra.c1
                have r2 := TE.out.rb.c0
                have r3 := TE.out.rb.c1
                have q0 := TE.out.za.c0
                have q1 := TE.out.za.c1
                have q2 := TE.out.zb.c0
                have q3 := TE.out.zb.c1
                have f0 : WE.frozen? ⟨w.heap.size, 0, none⟩ = false := free_at TE.out.ra 0
                have f1 : WE.frozen? ⟨w.heap.size, 1, none⟩ = false := free_at TE.out.ra 1
                have f2 : WE.frozen? ⟨w.heap.size + 1, 0, none⟩ = false := free_at TE.out.rb 0
                have f3 : WE.frozen? ⟨w.heap.size + 1, 1, none⟩ = false := free_at TE.out.rb 1
                have FX : Hid (_ ∧ _ ∧ _ ∧ _ ∧ _) := two_end TE.out.ra TE.out.rb (TE.out.c.mono (by have := TE.out.hg; omega) (Nat.le_refl _)) (TE.out.a.mono (by have := TE.out.hg; omega) (by have := TE.out.za.lt; omega)) TE.out.bl
                go_wp2
                go_region
                all_goals go_wp2
                all_goals
                  refine bodyPost_ret (results_arr2 rfl _ _ w.heap.size (w.heap.size + 1) _ _ _ _ rfl rfl FX.out.1 FX.out.2.1) rfl ?_
                  exact ⟨_, _, _, _, _, _, rfl, FX.out.2.2.1, FX.out.2.2.2.1, ⟨TE.out.len.2.2.1, TE.out.len.2.2.2, TE.out.len.1, TE.out.len.2.1⟩, FX.out.2.2.2.2.drew⟩
              · have hz1 : (z == 1) = false := by simpa using m1
                have r0 := TA.out.ra.c0
                have r1 := TA.out.ra.c1
                have r2 := TA.out.rb.c0
                have r3 := TA.out.rb.c1
                have q0 := TA.out.za.c0
                have q1 := TA.out.za.c1
                have q2 := TA.out.zb.c0
                have q3 := TA.out.zb.c1
                have f0 : wA.frozen? ⟨w.heap.size, 0, none⟩ = false := free_at TA.out.ra 0
                have f1 : wA.frozen? ⟨w.heap.size, 1, none⟩ = false := free_at TA.out.ra 1
                have f2 : wA.frozen? ⟨w.heap.size + 1, 0, none⟩ = false := free_at TA.out.rb 0
                have f3 : wA.frozen? ⟨w.heap.size + 1, 1, none⟩ = false := free_at TA.out.rb 1
                have FX : Hid (_ ∧ _ ∧ _ ∧ _ ∧ _) := two_end TA.out.ra TA.out.rb (TA.out.c.mono (by have := TA.out.hg; omega) (Nat.le_refl _)) (TA.out.a.mono (by have := TA.out.hg; omega) (by have := TA.out.za.lt; omega)) TA.out.bl
                go_wp2
                go_region
                all_goals go_wp2
                all_goals
                  refine bodyPost_ret (results_arr2 rfl _ _ w.heap.size (w.heap.size + 1) _ _ _ _ rfl rfl FX.out.1 FX.out.2.1) rfl ?_
                  exact ⟨_, _, _, _, _, _, rfl, FX.out.2.2.1, FX.out.2.2.2.1, ⟨TA.out.len.2.2.1, TA.out.len.2.2.2, TA.out.len.1, TA.out.len.2.1⟩, FX.out.2.2.2.2.drew⟩
      · go_wp2_with fail
        refine (below_small ST7.out.ok 15 (by decide) (by decide)).mono ?_
        rintro e wA ⟨z, z0, z15, rfl, hb, hd⟩
        have TA : Hid (TwoB W0.heap.size g w wA w2.heap.size w5.heap.size (.slice (some ⟨xb, xo, none⟩) s.length xc) (.slice ya d.length yc) (.slice ua 0 uc) (.slice va 1 vc) s d [] [x]) := ST7.out.toB.but hb hd
        clear hb hd ST7
        by_cases m0 : z = 0
        · subst m0
          go_wp2_with fail
          refine (draw_draw TA.out.ok).mono ?_
          rintro e wB ⟨v, t2, f2, rfl, hA, l1, l2, hb, hd⟩
          obtain ⟨ma, mc, na, nc, rfl, _, _, _, _⟩ := hA.arrI
          have TB : Hid (TwoB W0.heap.size g w wB w2.heap.size w5.heap.size (.slice (some ⟨xb, xo, none⟩) s.length xc) (.slice ya d.length yc) (.slice ua 0 uc) (.slice va 1 vc) s d [] [x]) := TA.out.but hb hd
          have TC : Hid (TwoB W0.heap.size g w ((wB.setCell ⟨w5.heap.size, 0, none⟩ (.slice ma t2.length mc)).setCell ⟨w5.heap.size, 1, none⟩ (.slice na f2.length nc)) w2.heap.size w5.heap.size (.slice (some ⟨xb, xo, none⟩) s.length xc) (.slice ya d.length yc) (.slice ma t2.length mc) (.slice na f2.length nc) s d t2 f2) := TB.out.putb (hA.mono (by have := TA.out.zb.lt; omega) (Nat.le_refl _)) l1 l2
          have b0 := TB.out.zb.c0
          have b1 := TB.out.zb.c1
          have g0 : wB.frozen? ⟨w5.heap.size, 0, none⟩ = false := free_at TB.out.zb 0
          have g1 : wB.frozen? ⟨w5.heap.size, 1, none⟩ = false := free_at TB.out.zb 1
          clear hA hb hd TA
          go_wp2_with fail
          clear b0 b1 g0 g1 TB
          generalize (wB.setCell ⟨w5.heap.size, 0, none⟩ (.slice ma t2.length mc)).setCell ⟨w5.heap.size, 1, none⟩ (.slice na f2.length nc) = WC at *
          have r0 := TC.out.ra.c0
          have r1 := TC.out.ra.c1
          have r2 := TC.out.rb.c0
          have r3 := TC.out.rb.c1
          have q0 := TC.out.za.c0
          have q1 := TC.out.za.c1
          have q2 := TC.out.zb.c0
          have q3 := TC.out.zb.c1
          have f0 : WC.frozen? ⟨w.heap.size, 0, none⟩ = false := free_at TC.out.ra 0
          have f1 : WC.frozen? ⟨w.heap.size, 1, none⟩ = false := free_at TC.out.ra 1
          have f2 : WC.frozen? ⟨w.heap.size + 1, 0, none⟩ = false := free_at TC.out.rb 0
          have f3 : WC.frozen? ⟨w.heap.size + 1, 1, none⟩ = false := free_at TC.out.rb 1
          have FX : Hid (_ ∧ _ ∧ _ ∧ _ ∧ _) := two_end TC.out.ra TC.out.rb (TC.out.c.mono (by have := TC.out.hg; omega) (Nat.le_refl _)) (TC.out.a.mono (by have := TC.out.hg; omega) (by have := TC.out.za.lt; omega)) TC.out.bl
          go_wp2
          go_region
          all_goals go_wp2
          all_goals
            refine bodyPost_ret (results_arr2 rfl _ _ w.heap.size (w.heap.size + 1) _ _ _ _ rfl rfl FX.out.1 FX.out.2.1) rfl ?_
            exact ⟨_, _, _, _, _, _, rfl, FX.out.2.2.1, FX.out.2.2.2.1, ⟨TC.out.len.2.2.1, TC.out.len.2.2.2, TC.out.len.1, TC.out.len.2.1⟩, FX.out.2.2.2.2.drew⟩
        · have hz0 : (z == 0) = false := by simpa using m0
          by_cases m1 : z = 1
          · subst m1
            go_wp2_with fail
            refine (pick_spec (B := W0.heap.size) (g := g) (gl := wA.heap.size) (TA.out.ok.alloc _) 4 4 (by decide) (by decide) (by have := TA.out.zb.lt; have := TA.out.nea; have := TA.out.nab; omega) (by simp) (nums_alloc wA [(-1 : Int), 100, 1000000000000, 0] _) rfl).mono ?_
            rintro e wD ⟨x9, rfl, hb, hd, hm⟩
            have TD : Hid (TwoB W0.heap.size g w wD w2.heap.size w5.heap.size (.slice (some ⟨xb, xo, none⟩) s.length xc) (.slice ya d.length yc) (.slice ua 0 uc) (.slice va 1 vc) s d [] [x]) := (TA.out.below (bAlloc (Below.refl _ _) _)).but hb hd
            clear hb hd hm TA
            go_wp2_with fail
            refine (scalar_spec _ _).mono ?_
            rintro e wB ⟨v, rfl, hA, hb⟩
            obtain ⟨ma, mc, na, nc, rfl, _, _, _, _⟩ := hA.arrI
            have TB : Hid (TwoB W0.heap.size g w wB w2.heap.size w5.heap.size (.slice (some ⟨xb, xo, none⟩) s.length xc) (.slice ya d.length yc) (.slice ua 0 uc) (.slice va 1 vc) s d [] [x]) := TD.out.below hb
            have TC : Hid (TwoB W0.heap.size g w ((wB.setCell ⟨w5.heap.size, 0, none⟩ (.slice ma ([] : List Int).length mc)).setCell ⟨w5.heap.size, 1, none⟩ (.slice na [x9].length nc)) w2.heap.size w5.heap.size (.slice (some ⟨xb, xo, none⟩) s.length xc) (.slice ya d.length yc) (.slice ma ([] : List Int).length mc) (.slice na [x9].length nc) s d [] [x9]) := TB.out.putb (hA.mono (by have := TD.out.zb.lt; omega) (Nat.le_refl _)) (by simp) (by simp)
            have b0 := TB.out.zb.c0
            have b1 := TB.out.zb.c1
            have g0 : wB.frozen? ⟨w5.heap.size, 0, none⟩ = false := free_at TB.out.zb 0
            have g1 : wB.frozen? ⟨w5.heap.size, 1, none⟩ = false := free_at TB.out.zb 1
            clear hA hb TD
            go_wp2_with fail
            clear b0 b1 g0 g1 TB
            generalize (wB.setCell ⟨w5.heap.size, 0, none⟩ (.slice ma ([] : List Int).length mc)).setCell ⟨w5.heap.size, 1, none⟩ (.slice na [x9].length nc) = WC at *
            have r0 := TC.out.ra.c0
            have r1 := TC.out.ra.c1
            have r2 := TC.out.rb.c0
            have r3 := TC.out.rb.c1
            have q0 := TC.out.za.c0
            have q1 := TC.out.za.c1
            have q2 := TC.out.zb.c0
            have q3 := TC.out.zb.c1
            have f0 : WC.frozen? ⟨w.heap.size, 0, none⟩ = false := free_at TC.out.ra 0
            have f1 : WC.frozen? ⟨w.heap.size, 1, none⟩ = false := free_at TC.out.ra 1
            have f2 : WC.frozen? ⟨w.heap.size + 1, 0, none⟩ = false := free_at TC.out.rb 0
            have f3 : WC.frozen? ⟨w.heap.size + 1, 1, none⟩ = false := free_at TC.out.rb 1
            have FX : Hid (_ ∧ _ ∧ _ ∧ _ ∧ _) := two_end TC.out.ra TC.out.rb (TC.out.c.mono (by have := TC.out.hg; omega) (Nat.le_refl _)) (TC.out.a.mono (by have := TC.out.hg; omega) (by have := TC.out.za.lt; omega)) TC.out.bl
            go_wp2
            go_region
            all_goals go_wp2
            all_goals
              refine bodyPost_ret (results_arr2 rfl _ _ w.heap.size (w.heap.size + 1) _ _ _ _ rfl rfl FX.out.1 FX.out.2.1) rfl ?_
              exact ⟨_, _, _, _, _, _, rfl, FX.out.2.2.1, FX.out.2.2.2.1, ⟨TC.out.len.2.2.1, TC.out.len.2.2.2, TC.out.len.1, TC.out.len.2.1⟩, FX.out.2.2.2.2.drew⟩
          · have hz1 : (z == 1) = false := by simpa using m1
            have r0 := TA.out.ra.c0
            have r1 := TA.out.ra.c1
            have r2 := TA.out.rb.c0
            have r3 := TA.out.rb.c1
            have q0 := TA.out.za.c0
            have q1 := TA.out.za.c1
            have q2 := TA.out.zb.c0
            have q3 := TA.out.zb.c1
            have f0 : wA.frozen? ⟨w.heap.size, 0, none⟩ = false := free_at TA.out.ra 0
            have f1 : wA.frozen? ⟨w.heap.size, 1, none⟩ = false := free_at TA.out.ra 1
            have f2 : wA.frozen? ⟨w.heap.size + 1, 0, none⟩ = false := free_at TA.out.rb 0
            have f3 : wA.frozen? ⟨w.heap.size + 1, 1, none⟩ = false := free_at TA.out.rb 1
            have FX : Hid (_ ∧ _ ∧ _ ∧ _ ∧ _) := two_end TA.out.ra TA.out.rb (TA.out.c.mono (by have := TA.out.hg; omega) (Nat.le_refl _)) (TA.out.a.mono (by have := TA.out.hg; omega) (by have := TA.out.za.lt; omega)) TA.out.bl
            go_wp2
            go_region
            all_goals go_wp2
            all_goals
              refine bodyPost_ret (results_arr2 rfl _ _ w.heap.size (w.heap.size + 1) _ _ _ _ rfl rfl FX.out.1 FX.out.2.1) rfl ?_
              exact ⟨_, _, _, _, _, _, rfl, FX.out.2.2.1, FX.out.2.2.2.1, ⟨TA.out.len.2.2.1, TA.out.len.2.2.2, TA.out.len.1, TA.out.len.2.1⟩, FX.out.2.2.2.2.drew⟩
    · have hq : (decide ((0 : Int) ≤ sz) && decide (sz ≤ 20)) = false := by
        rw [Bool.eq_false_iff]; intro hh; apply hin; simpa using hh
      go_wp2_with (go_at_call 56; refine (in_spec _ _ _ _).mono ?_; rintro e w' ⟨rfl, hw⟩; subst w'; rw [hq])
      rw [← hW6]
      clear y0 cy hW6 II
      refine (below_small ST6.out.ok 15 (by decide) (by decide)).mono ?_
      rintro e wA ⟨z, z0, z15, rfl, hb, hd⟩
      have TA : Hid (TwoB W0.heap.size g w wA w2.heap.size w5.heap.size (.slice (some ⟨xb, xo, none⟩) s.length xc) (.slice ya d.length yc) (.slice ua 0 uc) (.slice va 1 vc) s d [] [x]) := ST6.out.toB.but hb hd
      clear hb hd ST6
      by_cases m0 : z = 0
      · subst m0
        go_wp2_with fail
        refine (draw_draw TA.out.ok).mono ?_
        rintro e wB ⟨v, t2, f2, rfl, hA, l1, l2, hb, hd⟩
        obtain ⟨ma, mc, na, nc, rfl, _, _, _, _⟩ := hA.arrI
        have TB : Hid (TwoB W0.heap.size g w wB w2.heap.size w5.heap.size (.slice (some ⟨xb, xo, none⟩) s.length xc) (.slice ya d.length yc) (.slice ua 0 uc) (.slice va 1 vc) s d [] [x]) := TA.out.but hb hd
        have TC : Hid (TwoB W0.heap.size g w ((wB.setCell ⟨w5.heap.size, 0, none⟩ (.slice ma t2.length mc)).setCell ⟨w5.heap.size, 1, none⟩ (.slice na f2.length nc)) w2.heap.size w5.heap.size (.slice (some ⟨xb, xo, none⟩) s.length xc) (.slice ya d.length yc) (.slice ma t2.length mc) (.slice na f2.length nc) s d t2 f2) := TB.out.putb (hA.mono (by have := TA.out.zb.lt; omega) (Nat.le_refl _)) l1 l2
        have b0 := TB.out.zb.c0
        have b1 := TB.out.zb.c1
        have g0 : wB.frozen? ⟨w5.heap.size, 0, none⟩ = false := free_at TB.out.zb 0
        have g1 : wB.frozen? ⟨w5.heap.size, 1, none⟩ = false := free_at TB.out.zb 1
        clear hA hb hd TA
        go_wp2_with fail
        clear b0 b1 g0 g1 TB
        generalize (wB.setCell ⟨w5.heap.size, 0, none⟩ (.slice ma t2.length mc)).setCell ⟨w5.heap.size, 1, none⟩ (.slice na f2.length nc) = WC at *
        have r0 := TC.out.ra.c0
        have r1 := TC.out.ra.c1
        have r2 := TC.out.rb.c0
        have r3 := TC.out.rb.c1
        have q0 := TC.out.za.c0
        have q1 := TC.out.za.c1
        have q2 := TC.out.zb.c0
        have q3 := TC.out.zb.c1
        have f0 : WC.frozen? ⟨w.heap.size, 0, none⟩ = false := free_at TC.out.ra 0
        have f1 : WC.frozen? ⟨w.heap.size, 1, none⟩ = false := free_at TC.out.ra 1
        have f2 : WC.frozen? ⟨w.heap.size + 1, 0, none⟩ = false := free_at TC.out.rb 0
        have f3 : WC.frozen? ⟨w.heap.size + 1, 1, none⟩ = false := free_at TC.out.rb 1
        have FX : Hid (_ ∧ _ ∧ _ ∧ _ ∧ _) := two_end TC.out.ra TC.out.rb (TC.out.c.mono (by have := TC.out.hg; omega) (Nat.le_refl _)) (TC.out.a.mono (by have := TC.out.hg; omega) (by have := TC.out.za.lt; omega)) TC.out.bl
        go_wp2
        go_region
        all_goals go_wp2
        all_goals
          refine bodyPost_ret (results_arr2 rfl _ _ w.heap.size (w.heap.size + 1) _ _ _ _ rfl rfl FX.out.1 FX.out.2.1) rfl ?_
          exact ⟨_, _, _, _, _, _, rfl, FX.out.2.2.1, FX.out.2.2.2.1, ⟨TC.out.len.2.2.1, TC.out.len.2.2.2, TC.out.len.1, TC.out.len.2.1⟩, FX.out.2.2.2.2.drew⟩
      · have hz0 : (z == 0) = false := by simpa using m0
        by_cases m1 : z = 1
        · subst m1
          go_wp2_with fail
          refine (pick_spec (B := W0.heap.size) (g := g) (gl := wA.heap.size) (TA.out.ok.alloc _) 4 4 (by decide) (by decide) (by have := TA.out.zb.lt; have := TA.out.nea; have := TA.out.nab; omega) (by simp) (nums_alloc wA [(-1 : Int), 100, 1000000000000, 0] _) rfl).mono ?_
          rintro e wD ⟨x9, rfl, hb, hd, hm⟩
          have TD : Hid (TwoB W0.heap.size g w wD w2.heap.size w5.heap.size (.slice (some ⟨xb, xo, none⟩) s.length xc) (.slice ya d.length yc) (.slice ua 0 uc) (.slice va 1 vc) s d [] [x]) := (TA.out.below (bAlloc (Below.refl _ _) _)).but hb hd
          clear hb hd hm TA
          go_wp2_with fail
          refine (scalar_spec _ _).mono ?_
          rintro e wB ⟨v, rfl, hA, hb⟩
          obtain ⟨ma, mc, na, nc, rfl, _, _, _, _⟩ := hA.arrI
          have TB : Hid (TwoB W0.heap.size g w wB w2.heap.size w5.heap.size (.slice (some ⟨xb, xo, none⟩) s.length xc) (.slice ya d.length yc) (.slice ua 0 uc) (.slice va 1 vc) s d [] [x]) := TD.out.below hb
          have TC : Hid (TwoB W0.heap.size g w ((wB.setCell ⟨w5.heap.size, 0, none⟩ (.slice ma ([] : List Int).length mc)).setCell ⟨w5.heap.size, 1, none⟩ (.slice na [x9].length nc)) w2.heap.size w5.heap.size (.slice (some ⟨xb, xo, none⟩) s.length xc) (.slice ya d.length yc) (.slice ma ([] : List Int).length mc) (.slice na [x9].length nc) s d [] [x9]) := TB.out.putb (hA.mono (by have := TD.out.zb.lt; omega) (Nat.le_refl _)) (by simp) (by simp)
          have b0 := TB.out.zb.c0
          have b1 := TB.out.zb.c1
          have g0 : wB.frozen? ⟨w5.heap.size, 0, none⟩ = false := free_at TB.out.zb 0
          have g1 : wB.frozen? ⟨w5.heap.size, 1, none⟩ = false := free_at TB.out.zb 1
          clear hA hb TD
          go_wp2_with fail
          clear b0 b1 g0 g1 TB
          generalize (wB.setCell ⟨w5.heap.size, 0, none⟩ (.slice ma ([] : List Int).length mc)).setCell ⟨w5.heap.size, 1, none⟩ (.slice na [x9].length nc) = WC at *
          have r0 := TC.out.ra.c0
          have r1 := TC.out.ra.c1
          have r2 := TC.out.rb.c0
          have r3 := TC.out.rb.c1
          have q0 := TC.out.za.c0
          have q1 := TC.out.za.c1
          have q2 := TC.out.zb.c0
          have q3 := TC.out.zb.c1
          have f0 : WC.frozen? ⟨w.heap.size, 0, none⟩ = false := free_at TC.out.ra 0
          have f1 : WC.frozen? ⟨w.heap.size, 1, none⟩ = false := free_at TC.out.ra 1
          have f2 : WC.frozen? ⟨w.heap.size + 1, 0, none⟩ = false := free_at TC.out.rb 0
          have f3 : WC.frozen? ⟨w.heap.size + 1, 1, none⟩ = false := free_at TC.out.rb 1
          have FX : Hid (_ ∧ _ ∧ _ ∧ _ ∧ _) := two_end TC.out.ra TC.out.rb (TC.out.c.mono (by have := TC.out.hg; omega) (Nat.le_refl _)) (TC.out.a.mono (by have := TC.out.hg; omega) (by have := TC.out.za.lt; omega)) TC.out.bl
          go_wp2
          go_region
          all_goals go_wp2
          all_goals
            refine bodyPost_ret (results_arr2 rfl _ _ w.heap.size (w.heap.size + 1) _ _ _ _ rfl rfl FX.out.1 FX.out.2.1) rfl ?_
            exact ⟨_, _, _, _, _, _, rfl, FX.out.2.2.1, FX.out.2.2.2.1, ⟨TC.out.len.2.2.1, TC.out.len.2.2.2, TC.out.len.1, TC.out.len.2.1⟩, FX.out.2.2.2.2.drew⟩
        · have hz1 : (z == 1) = false := by simpa using m1
          have r0 := TA.out.ra.c0
          have r1 := TA.out.ra.c1
          have r2 := TA.out.rb.c0
          have r3 := TA.out.rb.c1
          have q0 := TA.out.za.c0
          have q1 := TA.out.za.c1
          have q2 := TA.out.zb.c0
          have q3 := TA.out.zb.c1
          have f0 : wA.frozen? ⟨w.heap.size, 0, none⟩ = false := free_at TA.out.ra 0
          have f1 : wA.frozen? ⟨w.heap.size, 1, none⟩ = false := free_at TA.out.ra 1
          have f2 : wA.frozen? ⟨w.heap.size + 1, 0, none⟩ = false := free_at TA.out.rb 0
          have f3 : wA.frozen? ⟨w.heap.size + 1, 1, none⟩ = false := free_at TA.out.rb 1
          have FX : Hid (_ ∧ _ ∧ _ ∧ _ ∧ _) := two_end TA.out.ra TA.out.rb (TA.out.c.mono (by have := TA.out.hg; omega) (Nat.le_refl _)) (TA.out.a.mono (by have := TA.out.hg; omega) (by have := TA.out.za.lt; omega)) TA.out.bl
          go_wp2
          go_region
          all_goals go_wp2
          all_goals
            refine bodyPost_ret (results_arr2 rfl _ _ w.heap.size (w.heap.size + 1) _ _ _ _ rfl rfl FX.out.1 FX.out.2.1) rfl ?_
            exact ⟨_, _, _, _, _, _, rfl, FX.out.2.2.1, FX.out.2.2.2.1, ⟨TA.out.len.2.2.1, TA.out.len.2.2.2, TA.out.len.1, TA.out.len.2.1⟩, FX.out.2.2.2.2.drew⟩
end Go.Proofs.Ythjjjnapcbkhjaa
