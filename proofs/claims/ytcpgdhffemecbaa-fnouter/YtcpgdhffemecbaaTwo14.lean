/-
  What a draw of two arrays knows once both lie in their blocks (few texts behind it).
-/
import Derived.Test.YtcpgdhffemecbaaDrawTwoA
namespace Go.Proofs.Ytcpgdhffemecbaa
open Go.RowKit
set_option linter.unusedVariables false
set_option linter.unusedSimpArgs false
structure TwoQ (B g : Nat) (w W : World) (qa qb : Nat) (x y x' y' : Value) (s d t f : List Int) : Prop where
  ra : Box W w.heap.size (.slice none 0 0) (.slice none 0 0) 26
  rb : Box W (w.heap.size + 1) (.slice none 0 0) (.slice none 0 0) 26
  za : Box W qa x y 26
  zb : Box W qb x' y' 26
  a : Arr (g + 1) qa W (.agg #[x, y]) s d
  c : Arr (qa + 1) qb W (.agg #[x', y']) t f
  hg : w.heap.size + 2 ≤ g
  nea : g < qa
  nab : qa < qb
  len : s.length ≤ 4 ∧ d.length ≤ 301 ∧ t.length ≤ 4 ∧ f.length ≤ 301
  bl : Below w.heap.size w W
  ok : DrawOk B g W
theorem TwoQ.but {B g : Nat} {w W W' : World} {qa qb : Nat} {x y x' y' : Value} {s d t f : List Int} (h : TwoQ B g w W qa qb x y x' y' s d t f) (hb : But g W W') (hd : DrawOk B g W') : TwoQ B g w W' qa qb x y x' y' s d t f := by
  have h2 := h.hg
  have h3 := h.nea
  have h4 := h.nab
  have h5 := h.bl.size
  exact ⟨boxBut h.ra hb (by omega), boxBut h.rb hb (by omega), boxBut h.za hb (by omega), boxBut h.zb hb (by omega), h.a.but hb (.inl (Nat.lt_succ_self _)), h.c.but hb (.inl (by omega)), h.hg, h.nea, h.nab, h.len, h.bl.trans (hb.below (by omega) h5), hd⟩
theorem TwoQ.below {B g : Nat} {w W W' : World} {qa qb : Nat} {x y x' y' : Value} {s d t f : List Int} (h : TwoQ B g w W qa qb x y x' y' s d t f) (hb : Below W.heap.size W W') : TwoQ B g w W' qa qb x y x' y' s d t f := by
  have h3 := h.za.lt
  have h4 := h.nea
  exact h.but (But.of hb) (h.ok.but (But.of (g := W.heap.size) hb) (by omega))
end Go.Proofs.Ytcpgdhffemecbaa
