
/-
  A list appended to an empty one: a copy in new memory.
-/
import Derived.Test.YtnebjnglcfebeaaDoorArr
import Derived.Deep.AppendSrc
import Derived.Laws.ResultCell
namespace Go.Proofs.YtnebjnglcfebeaaDoor
open Go.RowKit
set_option linter.unusedVariables false
set_option linter.unusedSimpArgs false
theorem setCells_nil (w : World) (b o : Nat) : w.setCells b o [] = w := by simp [World.setCells]
theorem src_ints {w : World} {a : Option Addr} {l : List Int} (h : Ints w a l) (c : Nat) : Src Tryd.prog 1 65 (.slice a l.length c) l.length (l.map (Value.int .i64)) w := by
  by_cases h0 : l = []
  · subst h0
    cases a with
    | none => exact Src.ofNil w Tryd.underlying65 c
    | some x => exact Src.ofSlice w Tryd.underlying65 x 0 c [] rfl (by simp) (by simp)
  · rcases h with h | ⟨b, off, rfl, hb, hc⟩
    · exact absurd h h0
    · refine Src.ofSlice w Tryd.underlying65 ⟨b, off, none⟩ l.length c _ (by simp) ?_ ?_
      · intro j v hv
        rw [List.getElem?_map] at hv
        cases hx : l[j]? with
        | none => rw [hx] at hv; cases hv
        | some x =>
          rw [hx] at hv
          obtain ⟨hj, rfl⟩ := List.getElem?_eq_some_iff.1 hx
          have e : (⟨b, off, none⟩ : Addr).add j = ⟨b, off + j, none⟩ := by unfold Addr.add; split <;> simp_all
          rw [e, hc j hj]
          simpa [hj] using hv
      · intro v hv
        obtain ⟨x, _, rfl⟩ := List.mem_map.1 hv
        rfl
theorem append_new {w : World} {a : Option Addr} {l : List Int} (h : Ints w a l) (hl : l.length ≤ 1048576) (b o c : Nat) :
    ∃ v w', (∀ ty, (Builtin.append_ #[65, 65] ty #[.slice (some ⟨b, o, none⟩) 0 0, .slice a l.length c]).run Tryd.prog w = .ok v w') ∧ Piece w.heap.size w'.heap.size w' v l ∧ Below w.heap.size w w' := by
  have hi := info_int
  cases hq : Tryd.prog.info? 3 with
  | none => rw [hq] at hi; cases hi
  | some i =>
    rw [hq] at hi
    simp at hi
    obtain ⟨z1, z2, z3⟩ := hi
    have hs := src_ints h c
    rw [← z2] at hs
    by_cases h0 : l = []
    · subst h0
      refine ⟨.slice (some ⟨b, o, none⟩) 0 0, w, fun ty => ?_, ⟨_, 0, rfl, by simp, .inl rfl⟩, Below.refl _ _⟩
      have q := run_append_room_src w 65 65 ty 3 i Tryd.underlying65 hq b o 0 0 _ 0 [] hs (by omega) (by simp) (by simp)
      rw [setCells_nil] at q
      exact q
    · have hp : 0 < l.length := List.length_pos_iff.2 h0
      refine ⟨_, _, fun ty => run_append_grow_src w 65 65 ty 3 i (.int .i64 0) Tryd.underlying65 hq z1 (some ⟨b, o, none⟩) 0 0 [] (by simp [Builtin.firstCells, loadCells, loadCellsFrom]) _ l.length _ hs (by omega) (by omega) (growslice_fits (by omega) (by rw [z3]; omega)), ?_, ?_⟩
      · refine ⟨_, _, by rw [Nat.zero_add], by exact grownCap_ge w l.length 0 3, .inr ⟨w.heap.size, 0, _, 3, rfl, Nat.le_refl _, by simp, heap_alloc_new w.drew _, fun k hk => ?_⟩⟩
        rw [Nat.zero_add, Array.getElem?_append_left (by simpa using hk)]
        simp [hk]
      · exact bAlloc ((Below.refl _ _).drew) _
/-- A copy by append, as one step of a region that draws its order. -/
theorem step_append_newI {ops : Array Oper} {o : Oper} {a : Act} {w : World} {K : Act → World → Prop} {Q : Exit → Act → World → Prop} {E : Prop} (hgd : o.guard = none) (s x : Operand)
    (ho : o.op = .call { callee := .builtin .append, args := #[s, x], argTypes := #[65, 65] }) (b o' c : Nat) (ad : Option Addr) (l : List Int) (hs : a.eval s = .slice (some ⟨b, o', none⟩) 0 0) (hx : a.eval x = .slice ad l.length c) (h : Ints w ad l) (hl : l.length ≤ 1048576)
    (hK : ∀ a' c' w', Piece w.heap.size w'.heap.size w' (.slice a' l.length c') l → Below w.heap.size w w' → K (a.put o.dst (.slice a' l.length c')) w') :
    if Region.wanted o (yielded ops a.tmps) = true then Oper.wp Tryd.prog o a w K Q else E := by
  have hw : Region.wanted o (yielded ops a.tmps) = true := by simp [Region.wanted, hgd]
  rw [if_pos hw]
  obtain ⟨v, w', hrun, hp, hb⟩ := append_new h hl b o' c
  obtain ⟨a', c', rfl, _⟩ := hp.ints
  unfold Oper.wp
  simp [execOp, ho, resolve, invoke, builtin, hs, hx, hrun, Result.andThen]
  exact hK _ _ _ hp hb
/-- A row of the call's own stays while what was there stays. -/
theorem ownsRow_keep {w w' : World} {B : Nat} {e : TypeId} {sz : Nat} {v : Value} {n : Nat} {xs : List Value} (h : w.ownsRow B e sz v n xs) (hb : Below w.heap.size w w') : w'.ownsRow B e sz v n xs := by
  obtain ⟨h1, h2⟩ := h
  refine ⟨h1, ?_⟩
  rcases h2 with h2 | ⟨k, cap, cur, e', hk, hh, r⟩
  · exact .inl h2
  · exact .inr ⟨k, cap, cur, e', hk, by rw [hb.block k (Array.getElem?_eq_some_iff.1 hh).1]; exact hh, r⟩
/-- An append whose run is known. -/
theorem wpList_append_run {P : Program} {w w' : World} {ops : Array Oper} {rest : List Oper} {o : Oper} {a : Act} {Q : Exit → Act → World → Prop} (hgd : o.guard = none) (d s : Operand) (dT sT : TypeId)
    (ho : o.op = .call { callee := .builtin .append, args := #[d, s], argTypes := #[dT, sT] }) (x y v : Value) (hd : a.eval d = x) (hs : a.eval s = y)
    (hrun : ∀ ty, (Builtin.append_ #[dT, sT] ty #[x, y]).run P w = .ok v w') (h : wpList P ops Q rest (a.put o.dst v) w') : wpList P ops Q (o :: rest) a w := by
  refine wpList_plain hgd fun K hK => ?_
  unfold Oper.wp
  simp [execOp, ho, resolve, invoke, builtin, hd, hs, hrun, Result.andThen]
  exact hK _ _ h
theorem arr_stored {w : World} {g : Nat} {x y x' y' : Value} {t : TypeId} (h : w.heap[g]? = some (.cells #[x, y] t (0, 0))) : ((w.setCell ⟨g, 0, none⟩ x').setCell ⟨g, 1, none⟩ y').heap[g]? = some (.cells #[x', y'] t (0, 0)) := by
  have h1 := heap_setCell_same w g 0 _ _ x' h
  have h2 := heap_setCell_same _ g 1 _ _ y' h1
  simpa using h2
end Go.Proofs.YtnebjnglcfebeaaDoor
