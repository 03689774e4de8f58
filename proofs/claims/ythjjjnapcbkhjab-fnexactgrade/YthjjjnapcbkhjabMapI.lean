/-
  A map from numbers to numbers of the call's own: what a look-up and a store come to.
-/
import Derived.Test.YthjjjnapcbkhjabLaw3
import Derived.Maps.OwnSet
import Derived.Maps.Views
namespace Go.Proofs.Ythjjjnapcbkhjab
open Go.RowKit
set_option linter.unusedVariables false
set_option linter.unusedSimpArgs false
theorem keyed_int : Maps.Keyed Try.prog 3 := Maps.int_keyed Try.underlying3
/-- Block b is a map of at most n entries that tells M. -/
def MapAt (w : World) (b n : Nat) (M : Int → Option Int) : Prop :=
  ∃ D : DataW Unit, w.ownsMap Try.prog 3 (plainElem Try.prog 3) b n D ∧
    ∀ x : Int, (Lit.int .i64 x).wf = true → Maps.has D (.int .i64 x) = (M x).isSome ∧ ∀ z : Int, D.atKey (.int .i64 x) (.lit (.int .i64 z)) = .lit (.int .i64 ((M x).getD z))
theorem zero_i64 (w : World) : (zeroValue 3).run Try.prog w = .ok (.int .i64 0) w := by
  have hi := info_int
  cases hq : Try.prog.info? 3 with
  | none => rw [hq] at hi; cases hi
  | some i =>
    rw [hq] at hi
    simp at hi
    simp [zeroValue, typeInfo, hq, hi.1]
theorem mapAt_new (w : World) : MapAt (w.alloc (.map #[] 0)) w.heap.size 0 (fun _ => none) :=
  ⟨.map [], World.ownsMap_made w _ _ _, fun x _ => ⟨rfl, fun z => rfl⟩⟩
theorem MapAt.look {w : World} {b n : Nat} {M : Int → Option Int} (h : MapAt w b n M) {x : Int} (hx : (Lit.int .i64 x).wf = true) :
    (Instr.lookup 37 (.map (some b)) (.int .i64 x) true).run Try.prog w = .ok (.tuple #[.int .i64 ((M x).getD 0), .bool (M x).isSome]) w := by
  obtain ⟨D, ho, hD⟩ := h
  obtain ⟨h1, h2⟩ := hD x hx
  obtain ⟨v, ps, hrun, hv⟩ := ho.look_ok keyed_int Try.underlying37 (zero_i64 w) (plainElem_int Try.underlying3 (by decide)) (Maps.keyOf_int_mk Try.underlying3 hx)
  obtain ⟨c, rfl, hc, hwc⟩ := plainElem_int_inv Try.underlying3 hv
  have e := congrArg Prod.fst hc
  dsimp only at e
  rewrite [h2 0] at e
  have e2 : (M x).getD 0 = c := (Lit.int.inj (DataW.lit.inj e)).2
  rw [hrun, h1, ← e2]
theorem MapAt.store {w : World} {b n : Nat} {M : Int → Option Int} (h : MapAt w b n M) (hn : n ≤ 1000) {x p : Int} (hx : (Lit.int .i64 x).wf = true) (hp : (Lit.int .i64 p).wf = true) :
    ∃ w', (Instr.mapUpdate 37 (.map (some b)) (.int .i64 x) (.int .i64 p)).run Try.prog w = .ok () w' ∧ MapAt w' b (n + 1) (fun y => if y = x then some p else M y) ∧ w.grownBy w' (some b) := by
  obtain ⟨D, ho, hD⟩ := h
  obtain ⟨w', hrun, ho', hg⟩ := ho.update keyed_int Try.underlying37 (by unfold maxLen; omega) (Maps.keyOf_int_mk Try.underlying3 hx) (plainElem_int Try.underlying3 hp)
  refine ⟨w', hrun, ⟨_, ho', fun y hy => ?_⟩, hg⟩
  dsimp only
  by_cases e : y = x
  · subst e
    rw [if_pos rfl]
    exact ⟨Maps.has_put_same ho.isMap (by trivial) _, fun z => Maps.atKey_put_same ho.isMap (by trivial) _ _⟩
  · rw [if_neg e]
    have hne : (Lit.int .i64 y) ≠ (Lit.int .i64 x) := fun q => e (by injection q)
    obtain ⟨q1, q2⟩ := hD y hy
    exact ⟨(Maps.has_put_other hne _).trans q1, fun z => (Maps.atKey_put_other hne _ _).trans (q2 z)⟩
theorem MapAt.lt {w : World} {b n : Nat} {M : Int → Option Int} (h : MapAt w b n M) : b < w.heap.size := by obtain ⟨D, ho, _⟩ := h; exact ho.lt
theorem MapAt.kept {w w' : World} {b n : Nat} {M : Int → Option Int} {row : Option Nat} (h : MapAt w b n M) (hg : w.grownBy w' row) (hne : some b ≠ row) : MapAt w' b n M := by
  obtain ⟨D, ho, hD⟩ := h
  exact ⟨D, ho.kept hg hne, hD⟩
theorem MapAt.keep {w w' : World} {b n : Nat} {M : Int → Option Int} (h : MapAt w b n M) (hb : Below w.heap.size w w') : MapAt w' b n M :=
  h.kept (row := none) ⟨hb.os, hb.tape, hb.output, hb.size, fun k hk _ => hb.block k hk⟩ (by simp)
theorem MapAt.setCell {w : World} {b n : Nat} {M : Int → Option Int} (h : MapAt w b n M) {a : Addr} (ha : b ≠ a.block) (u : Value) : MapAt (w.setCell a u) b n M := by
  obtain ⟨D, ho, hD⟩ := h
  exact ⟨D, ho.setCell ha u, hD⟩
end Go.Proofs.Ythjjjnapcbkhjab
