/-
  Ahead of 'return a, l3Draw(c)': what a draw of two arrays knows.
-/
import Derived.Test.YthjjjnapcbkhjaaDrawNM
import Derived.Test.YthjjjnapcbkhjaaDrawShapeM
namespace Go.Proofs.Ythjjjnapcbkhjaa
open Go.RowKit
set_option linter.unusedVariables false
set_option linter.unusedSimpArgs false
/-- a in its own block, the answer's two blocks as they were laid. -/
structure TwoSt (B g : Nat) (w W : World) (q : Nat) (x y : Value) (s d : List Int) : Prop where
  ra : Box W w.heap.size (.slice none 0 0) (.slice none 0 0) 26
  rb : Box W (w.heap.size + 1) (.slice none 0 0) (.slice none 0 0) 26
  z : Box W q x y 26
  a : Arr (g + 1) W.heap.size W (.agg #[x, y]) s d
  hq : w.heap.size + 2 ≤ q
  hg : w.heap.size + 2 ≤ g
  ne : g < q
  ls : s.length ≤ 4
  ld : d.length ≤ 301
  bl : Below w.heap.size w W
  ok : DrawOk B g W
theorem TwoSt.drew {B g : Nat} {w W : World} {q : Nat} {x y : Value} {s d : List Int} (h : TwoSt B g w W q x y s d) : TwoSt B g w W.drew q x y s d := by
  have b : Below W.heap.size W W.drew := (Below.refl _ _).drew
  exact ⟨h.ra.keep b, h.rb.keep b, h.z.keep b, h.a.keep b, h.hq, h.hg, h.ne, h.ls, h.ld, h.bl.drew, h.ok.keep ((Below.refl B W).drew) rfl⟩
theorem TwoSt.but {B g : Nat} {w W W' : World} {q : Nat} {x y : Value} {s d : List Int} (h : TwoSt B g w W q x y s d) (hb : But g W W') (hd : DrawOk B g W') : TwoSt B g w W' q x y s d := by
  have h1 := h.hq
  have h2 := h.hg
  have h3 := h.ne
  have h4 := h.bl.size
  exact ⟨boxBut h.ra hb (by omega), boxBut h.rb hb (by omega), boxBut h.z hb (by omega), (h.a.but hb (.inl (Nat.lt_succ_self _))).mono (Nat.le_refl _) hb.size, h.hq, h.hg, h.ne, h.ls, h.ld, h.bl.trans (hb.below (by omega) h4), hd⟩
theorem TwoSt.below {B g : Nat} {w W W' : World} {q : Nat} {x y : Value} {s d : List Int} (h : TwoSt B g w W q x y s d) (hb : Below W.heap.size W W') : TwoSt B g w W' q x y s d := by
  have h3 := h.z.lt
  have h4 := h.ne
  exact h.but (But.of hb) (h.ok.but (But.of (g := W.heap.size) hb) (by omega))
/-- Another array is put into a's block. -/
theorem TwoSt.put {B g : Nat} {w W : World} {q : Nat} {x y x' y' : Value} {s d s' d' : List Int} (h : TwoSt B g w W q x y s d) (ha : Arr (g + 1) W.heap.size W (.agg #[x', y']) s' d') (hd : Arr (q + 1) W.heap.size W (.agg #[x', y']) s' d') (ls : s'.length ≤ 4) (ld : d'.length ≤ 301) :
    TwoSt B g w ((W.setCell ⟨q, 0, none⟩ x').setCell ⟨q, 1, none⟩ y') q x' y' s' d' := by
  have h1 := h.hq
  have h2 := h.hg
  have h3 := h.ne
  have h4 := h.bl.size
  have C : But q W ((W.setCell ⟨q, 0, none⟩ x').setCell ⟨q, 1, none⟩ y') := ((But.refl _ _).setCell 0 _).setCell 1 _
  exact ⟨boxBut h.ra C (by omega), boxBut h.rb C (by omega), arr_stored h.z, (hd.but C (.inl (Nat.lt_succ_self _))).mono (by omega) C.size, h.hq, h.hg, h.ne, ls, ld, h.bl.trans (C.below (by omega) h4), h.ok.but C h3⟩
end Go.Proofs.Ythjjjnapcbkhjaa
