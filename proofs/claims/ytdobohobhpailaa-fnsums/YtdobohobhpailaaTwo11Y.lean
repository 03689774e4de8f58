/-
  What a draw of two arrays knows once both lie in their blocks.
-/
import Derived.Test.YtdobohobhpailaaDrawNY
import Derived.Test.YtdobohobhpailaaDrawShape
import Derived.Test.YtdobohobhpailaaZ1
import Derived.Test.YtdobohobhpailaaZ2
namespace Go.Proofs.Ytdobohobhpailaa
open Go.RowKit
set_option linter.unusedVariables false
set_option linter.unusedSimpArgs false
structure TwoB (B g : Nat) (w W : World) (qa qb : Nat) (x y x' y' : Value) (s d t f : List Int) : Prop where
  ra : Box W w.heap.size (.slice none 0 0) (.slice none 0 0) 26
  rb : Box W (w.heap.size + 1) (.slice none 0 0) (.slice none 0 0) 26
  za : Box W qa x y 26
  zb : Box W qb x' y' 26
  a : Arr (g + 1) qa W (.agg #[x, y]) s d
  c : Arr (g + 1) W.heap.size W (.agg #[x', y']) t f
  hg : w.heap.size + 2 ≤ g
  nea : g < qa
  nab : qa < qb
  len : s.length ≤ 4 ∧ d.length ≤ 301 ∧ t.length ≤ 4 ∧ f.length ≤ 301
  bl : Below w.heap.size w W
  ok : DrawOk B g W
theorem TwoB.but {B g : Nat} {w W W' : World} {qa qb : Nat} {x y x' y' : Value} {s d t f : List Int} (h : TwoB B g w W qa qb x y x' y' s d t f) (hb : But g W W') (hd : DrawOk B g W') : TwoB B g w W' qa qb x y x' y' s d t f := by
  have h2 := h.hg
  have h3 := h.nea
  have h4 := h.nab
  have h5 := h.bl.size
  exact ⟨boxBut h.ra hb (by omega), boxBut h.rb hb (by omega), boxBut h.za hb (by omega), boxBut h.zb hb (by omega), h.a.but hb (.inl (Nat.lt_succ_self _)), (h.c.but hb (.inl (Nat.lt_succ_self _))).mono (Nat.le_refl _) hb.size, h.hg, h.nea, h.nab, h.len, h.bl.trans (hb.below (by omega) h5), hd⟩
theorem TwoB.below {B g : Nat} {w W W' : World} {qa qb : Nat} {x y x' y' : Value} {s d t f : List Int} (h : TwoB B g w W qa qb x y x' y' s d t f) (hb : Below W.heap.size W W') : TwoB B g w W' qa qb x y x' y' s d t f := by
  have h3 := h.za.lt
  have h4 := h.nea
  exact h.but (But.of hb) (h.ok.but (But.of (g := W.heap.size) hb) (by omega))
theorem TwoB.putb {B g : Nat} {w W : World} {qa qb : Nat} {x y x' y' x2 y2 : Value} {s d t f t2 f2 : List Int} (h : TwoB B g w W qa qb x y x' y' s d t f) (hc : Arr (qb + 1) W.heap.size W (.agg #[x2, y2]) t2 f2) (l1 : t2.length ≤ 4) (l2 : f2.length ≤ 301) :
    TwoB B g w ((W.setCell ⟨qb, 0, none⟩ x2).setCell ⟨qb, 1, none⟩ y2) qa qb x y x2 y2 s d t2 f2 := by
  have h2 := h.hg
  have h3 := h.nea
  have h4 := h.nab
  have h5 := h.bl.size
  have C : But qb W ((W.setCell ⟨qb, 0, none⟩ x2).setCell ⟨qb, 1, none⟩ y2) := ((But.refl _ _).setCell 0 _).setCell 1 _
  exact ⟨boxBut h.ra C (by omega), boxBut h.rb C (by omega), boxBut h.za C (by omega), arr_stored h.zb, h.a.but C (.inr (by omega)), (hc.but C (.inl (Nat.lt_succ_self _))).mono (by omega) C.size, h.hg, h.nea, h.nab, ⟨h.len.1, h.len.2.1, l1, l2⟩, h.bl.trans (C.below (by omega) h5), h.ok.but C (by omega)⟩
end Go.Proofs.Ytdobohobhpailaa
