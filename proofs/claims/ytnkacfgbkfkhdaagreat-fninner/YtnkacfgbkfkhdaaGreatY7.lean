/-
  Several texts, one behind the other: SpecPlace, SpecArr, Append.
-/
import Derived.Test.YtnkacfgbkfkhdaaGreatY6
import Derived.Test.YtnkacfgbkfkhdaaGreatY4
import Derived.Test.YtnkacfgbkfkhdaaGreatY2
import Derived.Deep.AppendSrc
import Derived.Laws.ResultCell
namespace Go.Proofs.YtnkacfgbkfkhdaaGreat
open Go.RowKit
set_option linter.unusedVariables false

/-- ShapeOk. -/
theorem ok_spec {l : List Int} {a : Option Addr} {w : World} (c : Nat) (h1 : Ints w a l) :
    Calls Tryz.prog 31 #[.slice a l.length c] w fun e w' => e = .returned (.bool (decide (0 ≤ sizeV l))) ∧ w' = w := by
  have H1 : Hid (Ints w a l) := h1
  clear h1
  go_enter Tryz.func31, Tryz.ntmps31
  go_wp2_with (go_at_call 32; refine (size_spec _ H1.out).mono ?_; rintro e w' ⟨rfl, hw⟩; subst w')
  go_ret
  exact ⟨rfl, rfl⟩
end Go.Proofs.YtnkacfgbkfkhdaaGreat
namespace Go.Proofs.YtnkacfgbkfkhdaaGreat
open Go.RowKit
set_option linter.unusedVariables false
set_option linter.unusedSimpArgs false
set_option maxRecDepth 20000 in
set_option maxHeartbeats 2000000 in
/-- ArrayOk. -/
theorem arrOk_spec {s d : List Int} {w : World} {v : Value} (h : ArrI w v s d) (hd : d.length ≤ 1048576) :
    Calls Tryz.prog 28 #[v] w fun e w' => e = .returned (.bool (arrOk s d)) ∧ Below w.heap.size w w' := by
  obtain ⟨a, c, b, e, rfl, h1, h2, _, _⟩ := h
  have H1 : Hid (Ints w a s) := h1
  have H2 : Hid (Ints w b d) := h2
  clear h1 h2
  obtain ⟨z1, z2⟩ := sizeV_bd s
  go_enter Tryz.func28, Tryz.ntmps28
  go_wp2
  generalize hW : World.alloc w (.cells #[.slice a s.length c, .slice b d.length e] 26) = W
  have HB : Hid (Below w.heap.size w W) := by rw [← hW]; exact bAlloc (Below.refl _ _) _
  have r0 : W.cell? ⟨w.heap.size, 0, none⟩ = some (.slice a s.length c) := by rw [← hW]; exact cell_newA _ _ _ rfl
  have r1 : W.cell? ⟨w.heap.size, 1, none⟩ = some (.slice b d.length e) := by rw [← hW]; exact cell_newA _ _ _ rfl
  have HI : Hid (Ints W a s) := H1.out.keep HB.out
  have HJ : Hid (Ints W b d) := H2.out.keep HB.out
  clear hW
  by_cases hs : sizeV s = d.length
  · have HV : Hid (arrOk s d = d.all ok) := by show _ = _; simp [arrOk, hs]
    have HC : Hid (∀ W, Ints W a s → Calls Tryz.prog 32 #[.slice a s.length c] W fun e w' => e = .returned (.int .i64 d.length) ∧ w' = W) := fun W h => hs ▸ size_spec c h
    clear hs
    go_quiet ((go_at_call 32; exact Calls.quiet_of_same (HC.out _ HI.out)))
    go_wp2
    go_loopw [3] (fun i w' => ∃ k : Nat, k ≤ d.length ∧ i = .int .i64 k ∧ (d.take k).all ok = true ∧ ∃ j, w' = W.drewN j) (fun i _ => d.length - (intOf i).toNat)
    case atStart => exact ⟨0, by omega, rfl, by simp, _, rfl⟩
    case round =>
      obtain ⟨k, hk, rfl, ht, j, hw⟩ := hrel
      have HW : Hid (∃ j, wr = W.drewN j) := ⟨j, hw⟩
      have HT : Hid ((d.take k).all ok = true) := ht
      have t1 : wr.cell? ⟨w.heap.size, 1, none⟩ = some (.slice b d.length e) := by rw [hw]; exact r1
      clear ht
      by_cases hlt : (k : Int) < (d.length : Int)
      · have L : k < d.length := by omega
        obtain ⟨b1, o1, rfl, _, c1⟩ := HJ.out.at L
        have d1 : wr.cell? ⟨b1, o1 + k, none⟩ = some (.int .i64 (d.getD k 0)) := by rw [hw]; exact c1
        have Q : Hid ((d.take (k + 1)).all ok = ((d.take k).all ok && ok (d.getD k 0))) := by show _ = _; rw [take_snoc L, all_snocN]
        have QB : Hid (ok (d.getD k 0) = false → d.all ok = false) := fun h => by
          rw [List.all_eq_false]
          exact ⟨d.getD k 0, by simp [L], by rw [h]; decide⟩
        clear c1 L hw
        generalize d.getD k 0 = x at d1 Q QB
        by_cases hx : ok x = true
        · have HT' : Hid ((d.take (k + 1)).all ok = true) := by show _ = _; rw [Q.out, HT.out, hx]; rfl
          clear Q QB
          go_wp2_with fail
          refine (numOk_spec x _).mono ?_
          rintro r w' ⟨rfl, hw⟩
          subst w'
          go_wp2
          go_roundw
          case rel => exact ⟨k + 1, by omega, by go_num, HT'.out, HW.out⟩
          case measure => simp [intOf]; omega
        · have hx : ok x = false := by simpa using hx
          have HV' : Hid (arrOk s d = false) := by show _ = _; rw [HV.out, QB.out hx]
          clear Q QB
          go_wp2_with fail
          refine (numOk_spec x _).mono ?_
          rintro r w' ⟨rfl, hw⟩
          subst w'
          go_wp2
          go_ret
          obtain ⟨j, hj⟩ := HW.out
          exact ⟨by rw [HV'.out]; rfl, by rw [hj]; exact bDrewN HB.out j⟩
      · have HV' : Hid (arrOk s d = true) := by
          have h := HT.out
          show _ = _
          rw [List.take_of_length_le (by omega)] at h
          rw [HV.out, h]
        clear hw
        go_wp2
        go_ret
        obtain ⟨j, hj⟩ := HW.out
        exact ⟨by rw [HV'.out]; rfl, by rw [hj]; exact bDrewN HB.out j⟩
  · have HV : Hid (arrOk s d = false) := by show _ = _; simp [arrOk, hs]
    have hne : (sizeV s != (d.length : Int)) = true := by simpa using hs
    have HC : Hid (∀ W, Ints W a s → Calls Tryz.prog 32 #[.slice a s.length c] W fun e w' => e = .returned (.int .i64 (sizeV s)) ∧ w' = W) := fun W h => size_spec c h
    generalize sizeV s = z at *
    clear hs
    go_quiet ((go_at_call 32; exact Calls.quiet_of_same (HC.out _ HI.out)))
    go_wp2
    go_ret
    exact ⟨by rw [HV.out]; rfl, bDrewN HB.out _⟩
end Go.Proofs.YtnkacfgbkfkhdaaGreat
namespace Go.Proofs.YtnkacfgbkfkhdaaGreat
open Go.RowKit
set_option linter.unusedVariables false
set_option linter.unusedSimpArgs false
theorem setCells_nil (w : World) (b o : Nat) : w.setCells b o [] = w := by simp [World.setCells]
theorem src_ints {w : World} {a : Option Addr} {l : List Int} (h : Ints w a l) (c : Nat) : Src Tryz.prog 1 24 (.slice a l.length c) l.length (l.map (Value.int .i64)) w := by
  by_cases h0 : l = []
  · subst h0
    cases a with
    | none => exact Src.ofNil w Tryz.underlying24 c
    | some x => exact Src.ofSlice w Tryz.underlying24 x 0 c [] rfl (by simp) (by simp)
  · rcases h with h | ⟨b, off, rfl, hb, hc⟩
    · exact absurd h h0
    · refine Src.ofSlice w Tryz.underlying24 ⟨b, off, none⟩ l.length c _ (by simp) ?_ ?_
      · intro j v hv
        rw [List.getElem?_map] at hv
        cases hx : l[j]? with
        | none => rw [hx] at hv; cases hv
        | some x =>
          rw [hx] at hv
          obtain ⟨hj, rfl⟩ := List.getElem?_eq_some_iff.1 hx
          have e : (⟨b, off, none⟩ : Addr).add j = ⟨b, off + j, none⟩ := by unfold Addr.add; split <;> simp_all
          rw [e, hc j hj]
          simpa [hj] using hv
      · intro v hv
        obtain ⟨x, _, rfl⟩ := List.mem_map.1 hv
        rfl
theorem append_new {w : World} {a : Option Addr} {l : List Int} (h : Ints w a l) (hl : l.length ≤ 1048576) (b o c : Nat) :
    ∃ v w', (∀ ty, (Builtin.append_ #[24, 24] ty #[.slice (some ⟨b, o, none⟩) 0 0, .slice a l.length c]).run Tryz.prog w = .ok v w') ∧ Piece w.heap.size w'.heap.size w' v l ∧ Below w.heap.size w w' := by
  have hi := info_int
  cases hq : Tryz.prog.info? 3 with
  | none => rw [hq] at hi; cases hi
  | some i =>
    rw [hq] at hi
    simp at hi
    obtain ⟨z1, z2, z3⟩ := hi
    have hs := src_ints h c
    rw [← z2] at hs
    by_cases h0 : l = []
    · subst h0
      refine ⟨.slice (some ⟨b, o, none⟩) 0 0, w, fun ty => ?_, ⟨_, 0, rfl, by simp, .inl rfl⟩, Below.refl _ _⟩
      have q := run_append_room_src w 24 24 ty 3 i Tryz.underlying24 hq b o 0 0 _ 0 [] hs (by omega) (by simp) (by simp)
      rw [setCells_nil] at q
      exact q
    · have hp : 0 < l.length := List.length_pos_iff.2 h0
      refine ⟨_, _, fun ty => run_append_grow_src w 24 24 ty 3 i (.int .i64 0) Tryz.underlying24 hq z1 (some ⟨b, o, none⟩) 0 0 [] (by simp [Builtin.firstCells, loadCells, loadCellsFrom]) _ l.length _ hs (by omega) (by omega) (growslice_fits (by omega) (by rw [z3]; omega)), ?_, ?_⟩
      · refine ⟨_, _, by rw [Nat.zero_add], by exact grownCap_ge w l.length 0 3, .inr ⟨w.heap.size, 0, _, 3, rfl, Nat.le_refl _, by simp, heap_alloc_new w.drew _, fun k hk => ?_⟩⟩
        rw [Nat.zero_add, Array.getElem?_append_left (by simpa using hk)]
        simp [hk]
      · exact bAlloc ((Below.refl _ _).drew) _
/-- A copy by append, as one step of a region that draws its order. -/
theorem step_append_newI {ops : Array Oper} {o : Oper} {a : Act} {w : World} {K : Act → World → Prop} {Q : Exit → Act → World → Prop} {E : Prop} (hgd : o.guard = none) (s x : Operand)
    (ho : o.op = .call { callee := .builtin .append, args := #[s, x], argTypes := #[24, 24] }) (b o' c : Nat) (ad : Option Addr) (l : List Int) (hs : a.eval s = .slice (some ⟨b, o', none⟩) 0 0) (hx : a.eval x = .slice ad l.length c) (h : Ints w ad l) (hl : l.length ≤ 1048576)
    (hK : ∀ a' c' w', Piece w.heap.size w'.heap.size w' (.slice a' l.length c') l → Below w.heap.size w w' → K (a.put o.dst (.slice a' l.length c')) w') :
    if Region.wanted o (yielded ops a.tmps) = true then Oper.wp Tryz.prog o a w K Q else E := by
  have hw : Region.wanted o (yielded ops a.tmps) = true := by simp [Region.wanted, hgd]
  rw [if_pos hw]
  obtain ⟨v, w', hrun, hp, hb⟩ := append_new h hl b o' c
  obtain ⟨a', c', rfl, _⟩ := hp.ints
  unfold Oper.wp
  simp [execOp, ho, resolve, invoke, builtin, hs, hx, hrun, Result.andThen]
  exact hK _ _ _ hp hb
/-- A row of the call's own stays while what was there stays. -/
theorem ownsRow_keep {w w' : World} {B : Nat} {e : TypeId} {sz : Nat} {v : Value} {n : Nat} {xs : List Value} (h : w.ownsRow B e sz v n xs) (hb : Below w.heap.size w w') : w'.ownsRow B e sz v n xs := by
  obtain ⟨h1, h2⟩ := h
  refine ⟨h1, ?_⟩
  rcases h2 with h2 | ⟨k, cap, cur, e', hk, hh, r⟩
  · exact .inl h2
  · exact .inr ⟨k, cap, cur, e', hk, by rw [hb.block k (Array.getElem?_eq_some_iff.1 hh).1]; exact hh, r⟩
/-- An append whose run is known. -/
theorem wpList_append_run {P : Program} {w w' : World} {ops : Array Oper} {rest : List Oper} {o : Oper} {a : Act} {Q : Exit → Act → World → Prop} (hgd : o.guard = none) (d s : Operand) (dT sT : TypeId)
    (ho : o.op = .call { callee := .builtin .append, args := #[d, s], argTypes := #[dT, sT] }) (x y v : Value) (hd : a.eval d = x) (hs : a.eval s = y)
    (hrun : ∀ ty, (Builtin.append_ #[dT, sT] ty #[x, y]).run P w = .ok v w') (h : wpList P ops Q rest (a.put o.dst v) w') : wpList P ops Q (o :: rest) a w := by
  refine wpList_plain hgd fun K hK => ?_
  unfold Oper.wp
  simp [execOp, ho, resolve, invoke, builtin, hd, hs, hrun, Result.andThen]
  exact hK _ _ h
theorem arr_loaded {w : World} {g : Nat} {x y : Value} (h : w.heap[g]? = some (.cells #[x, y] 26 (0, 0))) : (loadVar 26 ⟨g, 0, none⟩).run Tryz.prog w = .ok (.agg #[x, y]) w := by
  have c0 : w.cell? ⟨g, 0, none⟩ = some x := cell_at h rfl
  have c1 : w.cell? ⟨g, 1, none⟩ = some y := cell_at h rfl
  simp [loadVar, go_sem, c0, c1]
theorem arr_stored {w : World} {g : Nat} {x y x' y' : Value} {t : TypeId} (h : w.heap[g]? = some (.cells #[x, y] t (0, 0))) : ((w.setCell ⟨g, 0, none⟩ x').setCell ⟨g, 1, none⟩ y').heap[g]? = some (.cells #[x', y'] t (0, 0)) := by
  have h1 := heap_setCell_same w g 0 _ _ x' h
  have h2 := heap_setCell_same _ g 1 _ _ y' h1
  simpa using h2
theorem results_arr_tmp {fn : Func} {p u : Tmp} (h : fn.results = #[.cell p 26, .tmp u]) (tmps : Array Value) (w : World) (g : Nat) (x y : Value) (hp : tmps.getD p undef = .pointer (some ⟨g, 0, none⟩))
    (hg : w.heap[g]? = some (.cells #[x, y] 26 (0, 0))) : (results fn tmps).run Tryz.prog w = .ok (.tuple #[.agg #[x, y], tmps.getD u undef]) w := by
  rw [results_cell_tmp h, hp]
  have e : (asAddr (.pointer (some ⟨g, 0, none⟩))).run Tryz.prog w = .ok ⟨g, 0, none⟩ w := by simp [asAddr]
  rw [e, Result.andThen_ok, arr_loaded hg]
  rfl
theorem results_arr {fn : Func} {p : Tmp} (h : fn.results = #[.cell p 26]) (tmps : Array Value) (w : World) (g : Nat) (x y : Value) (hp : tmps.getD p undef = .pointer (some ⟨g, 0, none⟩))
    (hg : w.heap[g]? = some (.cells #[x, y] 26 (0, 0))) : (results fn tmps).run Tryz.prog w = .ok (.agg #[x, y]) w := by
  have e : (asAddr (.pointer (some ⟨g, 0, none⟩))).run Tryz.prog w = .ok ⟨g, 0, none⟩ w := by simp [asAddr]
  have l := arr_loaded hg
  have hp' : tmps[p]?.getD undef = .pointer (some ⟨g, 0, none⟩) := by simpa using hp
  simp [results, h, hp', e, l, Sem.run_bind, Result.andThen]
end Go.Proofs.YtnkacfgbkfkhdaaGreat
