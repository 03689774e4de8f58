/-
  The draws of FnArrayBytes: an array, and bytes that may be spoiled.
-/
import Derived.Test.YtonkiipdobpfgaaDrawFill3
import Derived.Test.YtonkiipdobpfgaaZ1
import Derived.Test.YtonkiipdobpfgaaSubB
import Derived.Laws.BytesArg
namespace Go.Proofs.Ytonkiipdobpfgaa
open Go.RowKit
set_option linter.unusedVariables false
set_option linter.unusedSimpArgs false
set_option maxRecDepth 20000 in
set_option maxHeartbeats 1000000 in
/-- DrawArrayPack. -/
theorem drawArrayPack_spec {w : World} {a : Option Addr} {len cap : Nat} (hs : Src w.heap.size w a len) (hb20 : len ≤ 1048576) :
    Calls Try.prog 20 #[.slice a len cap] w fun e w' => ∃ v s d, e = .returned v ∧ Arr w.heap.size w'.heap.size w' v s d ∧ s.length ≤ 4 ∧ d.length ≤ 301 ∧ Below w.heap.size w w' := by
  have HS : Hid (Src (w.alloc (.cells #[.slice none 0 0, .slice none 0 0] 29)).heap.size (w.alloc (.cells #[.slice none 0 0, .slice none 0 0] 29)) a len) := srcKeep hs (bAlloc (Below.refl _ _) _)
  have HR0 : Hid ((w.alloc (.cells #[.slice none 0 0, .slice none 0 0] 29)).heap[w.heap.size]? = some (.cells #[.slice none 0 0, .slice none 0 0] 29 (0, 0))) := heap_alloc_new w _
  have HB0 : Hid (Below w.heap.size w (w.alloc (.cells #[.slice none 0 0, .slice none 0 0] 29))) := bAlloc (Below.refl _ _) _
  clear hs
  go_enter Try.func20, Try.ntmps20
  go_wp2_with fail
  refine (new_spec HS.out hb20).mono ?_
  rintro e w1 ⟨g, rfl, hb, hd⟩
  have HB1 : Hid (Below w.heap.size w w1) := HB0.out.trans (hb.mono (by simp))
  have HR1 : Hid (w1.heap[w.heap.size]? = some (.cells #[.slice none 0 0, .slice none 0 0] 29 (0, 0))) := (hb.block w.heap.size (by simp)).trans HR0.out
  have HD1 : Hid (DrawOk (w.alloc (.cells #[.slice none 0 0, .slice none 0 0] 29)).heap.size g w1) := hd
  have hg0 : w.heap.size < g := by have := hd.1; simp at this; omega
  have hg1 := hd.lt
  have S1 := lt_of_heapA HR1.out
  clear hb hd
  go_wp2_with fail
  refine (draw_draw HD1.out).mono ?_
  rintro e w2 ⟨v, s, d, rfl, hA, hls, hld, hb, hd⟩
  obtain ⟨x, y, rfl, px, py, ap⟩ := hA
  obtain ⟨xa, xc, hx, _⟩ := px.ints
  obtain ⟨ya, yc, hy, _⟩ := py.ints
  subst hx hy
  have hR2 : w2.heap[w.heap.size]? = some (.cells #[.slice none 0 0, .slice none 0 0] 29 (0, 0)) := (hb.block w.heap.size S1 (by omega)).trans HR1.out
  have HB2 : Hid (Below w.heap.size w w2) := HB1.out.trans (hb.below (by omega) HB1.out.size)
  have HR : Hid (((w2.setCell ⟨w.heap.size, 0, none⟩ (.slice xa s.length xc)).setCell ⟨w.heap.size, 1, none⟩ (.slice ya d.length yc)).heap[w.heap.size]? = some (.cells #[.slice xa s.length xc, .slice ya d.length yc] 29 (0, 0))) := arr_stored hR2
  have HA : Hid (Arr (w.heap.size + 1) w2.heap.size w2 (.agg #[.slice xa s.length xc, .slice ya d.length yc]) s d) := ⟨_, _, rfl, px.mono (by omega) (Nat.le_refl _), py.mono (by omega) (Nat.le_refl _), ap⟩
  have k0 : w2.cell? ⟨w.heap.size, 0, none⟩ = some (.slice none 0 0) := cell_at hR2 rfl
  have k1 : w2.cell? ⟨w.heap.size, 1, none⟩ = some (.slice none 0 0) := cell_at hR2 rfl
  have f0 : w2.frozen? ⟨w.heap.size, 0, none⟩ = false := free_at hR2 0
  have f1 : w2.frozen? ⟨w.heap.size, 1, none⟩ = false := free_at hR2 1
  clear hb hd px py ap hR2
  go_wp2_with fail
  refine bodyPost_ret (v := .agg #[_, _]) (results_arr rfl _ _ w.heap.size _ _ rfl HR.out) rfl ?_
  refine ⟨_, s, d, rfl, ?_, hls, hld, below_setCell (below_setCell HB2.out (Nat.le_refl _) _ _) (Nat.le_refl _) _ _⟩
  exact ((HA.out.setCell (Nat.lt_succ_self _) _ _).setCell (Nat.lt_succ_self _) _ _).mono (by omega) (by simp [size_setCell])
/-- A slice of bytes with room. -/
def RawB (W : World) (v : Value) (raw : List Int) : Prop := ∃ a c, v = .slice a raw.length c ∧ isB raw ∧ raw.length ≤ 3000 ∧ raw.length ≤ c ∧ c ≤ 9223372036854775807 ∧ Bys W a raw
theorem newB_raw {B : Nat} {W : World} {v : Value} {l : List Int} (h : NewB B W v l) (hb : isB l) (hl : l.length ≤ 3000) : RawB W v l := by
  obtain ⟨a, c, e, hy⟩ := h.bpiece.bys
  obtain ⟨h1, h2⟩ := h
  rcases h2 with ⟨rfl, h0⟩ | ⟨g, cap, cur, rfl, hB, hg, hc, hm, hs, ht⟩
  · have : l = [] := List.eq_nil_of_length_eq_zero h0
    subst this
    exact ⟨none, 0, rfl, hb, by simp, by simp, by omega, .inl rfl⟩
  · have e' := Value.slice.inj e
    rw [← e'.1] at hy
    exact ⟨_, cap, rfl, hb, hl, hc, Nat.le_trans hm (by unfold maxLen; decide), hy⟩
theorem RawB.keep {W W' : World} {v : Value} {raw : List Int} (h : RawB W v raw) (hb : Below W.heap.size W W') : RawB W' v raw := by
  obtain ⟨a, c, e, h1, h2, h3, h4, h5⟩ := h
  exact ⟨a, c, e, h1, h2, h3, h4, h5.keep hb⟩
theorem RawB.isB {W : World} {v : Value} {raw : List Int} (h : RawB W v raw) : isB raw := by
  obtain ⟨a, c, e, h1, _⟩ := h
  exact h1
theorem RawB.conv {W : World} {a : Option Addr} {c : Nat} {raw : List Int} (h : RawB W (.slice a raw.length c) raw) (h0 : 0 < raw.length) : (convert 26 9 (.slice a raw.length c)).run Try.prog W = .ok (.string (strOfNums raw)) W := by
  obtain ⟨a', c', e, h1, h2, h3, h4, h5⟩ := h
  obtain ⟨rfl, _, rfl⟩ := Value.slice.inj e
  obtain ⟨g, off, rfl, hg, _⟩ := h5.at h0
  exact run_convert_bytes_arg W _ _ Try.underlying26 Try.underlying5 g off _ c raw rfl (fun i hi => by
    obtain ⟨_, _, e, _, q⟩ := h5.at hi
    cases e; exact q) _ Try.underlying9
theorem ardB_pos {b : List Int} (h : ardB b = true) : 0 < b.length := by
  have : offB b ≤ b.length := Nat.le_of_not_lt fun hl => by rw [ardB_short hl] at h; cases h
  unfold offB at this; omega
theorem isB_set {l : List Int} (h : isB l) (k : Nat) {x : Int} (h0 : 0 ≤ x) (h1 : x ≤ 255) : isB (l.set k x) := by
  intro y hy
  rcases List.mem_or_eq_of_mem_set hy with hy | rfl
  · exact h y hy
  · exact ⟨h0, h1⟩
theorem NewB.but {B G : Nat} {w w' : World} {v : Value} {l : List Int} (h : NewB B w v l) (hb : But G w w') (hG : G < B) : NewB B w' v l := by
  obtain ⟨h1, h2⟩ := h
  refine ⟨h1, ?_⟩
  rcases h2 with h2 | ⟨g, cap, cur, e, hB, hg, r⟩
  · exact .inl h2
  · exact .inr ⟨g, cap, cur, e, hB, by rw [hb.block g (lt_of_heapA hg) (by omega)]; exact hg, r⟩
theorem NewB.set {B gb n c : Nat} {w : World} {l : List Int} (h : NewB B w (.slice (some ⟨gb, 0, none⟩) n c) l) {j : Nat} (hj : j < l.length) (x : Int) : NewB B (w.setCell ⟨gb, j, none⟩ (.int .u8 x)) (.slice (some ⟨gb, 0, none⟩) n c) (l.set j x) ∧ (∃ u, w.cell? ⟨gb, j, none⟩ = some u) ∧ w.frozen? ⟨gb, j, none⟩ = false := by
  obtain ⟨h1, h2⟩ := h
  rcases h2 with ⟨e, h0⟩ | ⟨g, cap, cur, e, hB, hg, hc, hm, hs, ht⟩
  · cases e
  · cases e
    have hcs : j < cur.size := by omega
    refine ⟨⟨by simp, .inr ⟨gb, c, _, by simp, hB, heap_setCell_same w gb j _ _ _ hg, by simpa using hc, hm, by simpa using hs, ?_⟩⟩, ⟨cur[j], cell_at hg (Array.getElem?_eq_getElem hcs)⟩, free_at hg _⟩
    rw [Array.toList_setIfInBounds, List.length_set, List.take_set, ht, List.map_set]
set_option maxRecDepth 20000 in
set_option maxHeartbeats 4000000 in
/-- DrawArrayRead. -/
theorem drawArrayRead_spec {w : World} {a : Option Addr} {len cap : Nat} (hs : Src w.heap.size w a len) (hb20 : len ≤ 1048576) :
    Calls Try.prog 24 #[.slice a len cap] w fun e w' => ∃ v raw, e = .returned v ∧ RawB w' v raw ∧ Below w.heap.size w w' := by
  have HS : Hid (Src w.heap.size w a len) := hs
  clear hs
  go_enter Try.func24, Try.ntmps24
  go_wp2_with fail
  refine (new_spec HS.out hb20).mono ?_
  rintro e w1 ⟨g, rfl, hb, hd⟩
  have HB1 : Hid (Below w.heap.size w w1) := hb
  have HD1 : Hid (DrawOk w.heap.size g w1) := hd
  have GL : Hid (w.heap.size ≤ g ∧ g < w1.heap.size) := ⟨hd.1, hd.lt⟩
  clear hb hd
  go_wp2_with fail
  refine (rightA_draw HD1.out).mono ?_
  rintro e w2 ⟨x, y, s, d, M, rfl, hM, hx, hy, hls, hld, hb, hd⟩
  obtain ⟨xa, xc, rfl, hxc, ix⟩ := hx.intsC
  obtain ⟨ya, yc, rfl, hyc, iy⟩ := hy.piece.intsC
  have AI : Hid (ArrI w2 (.agg #[.slice xa s.length xc, .slice ya d.length yc]) s d) := ⟨_, _, _, _, rfl, ix, iy, hxc, hyc⟩
  have HB2 : Hid (Below w.heap.size w w2) := HB1.out.trans (hb.below GL.out.1 HB1.out.size)
  have HD2 : Hid (DrawOk w.heap.size g w2) := hd
  have S2 : Hid (w1.heap.size ≤ w2.heap.size) := hb.size
  have LD : Hid (d.length ≤ 1048576) := by show _ ≤ _; omega
  clear hb hd hx hy ix iy hM hxc hyc
  go_wp2_with fail
  refine (arrayPack_spec AI.out LD.out).mono ?_
  rintro e w3 ⟨pa, pc, rfl, hN, hb⟩
  have HPL : Hid (isB (if arrOk s d = true then apack s d else []) ∧ (if arrOk s d = true then apack s d else []).length ≤ 2407) := by
    show _ ∧ _
    by_cases h : arrOk s d = true
    · rw [if_pos h]; exact ⟨apack_isB h, apack_len h⟩
    · rw [if_neg h]; exact ⟨fun x hx => (by cases hx), by simp⟩
  generalize (if arrOk s d = true then apack s d else []) = P at *
  have HN3 : Hid (NewB w2.heap.size w3 (.slice pa P.length pc) P) := hN
  have HB3 : Hid (Below w.heap.size w w3) := HB2.out.trans (hb.mono HB2.out.size)
  have HD3 : Hid (DrawOk w.heap.size g w3) := HD2.out.keep (hb.mono HB2.out.size) (hb.block g (by have := GL.out; have := S2.out; omega))
  have G3 : Hid (g < w2.heap.size ∧ w2.heap.size ≤ w3.heap.size) := ⟨by have := GL.out; have := S2.out; omega, hb.size⟩
  clear hb hN AI HD2 HB2
  by_cases h0 : P.length = 0
  · have RW : Hid (RawB w3 (.slice pa 0 pc) P) := by
      have := newB_raw HN3.out HPL.out.1 (Nat.le_trans HPL.out.2 (by decide))
      rw [h0] at this
      exact this
    have h1 : ((P.length : Int) == 0) = true := by simp [h0]
    generalize P.length = n at *
    go_wp2
    go_ret
    exact ⟨_, P, rfl, RW.out, HB3.out⟩
  · have h1 : ((P.length : Int) == 0) = false := beq_eq_false_iff_ne.2 (by omega)
    have h1b : ¬ ((P.length : Int) = 0) := by omega
    obtain ⟨gb, rfl⟩ : ∃ gb, pa = some ⟨gb, 0, none⟩ := by
      obtain ⟨_, h2⟩ := HN3.out
      rcases h2 with ⟨_, h2⟩ | ⟨gb, _, _, e, _⟩
      · exact absurd h2 h0
      · exact ⟨gb, (Value.slice.inj e).1⟩
    have hn0 : (0 : Int) < (P.length : Int) := by omega
    have hn1 : (0 : Int) < (P.length : Int) + 1 := by omega
    have hn2 : P.length ≤ 2407 := HPL.out.2
    have hpc : Hid (P.length ≤ pc) := by
      obtain ⟨_, h2⟩ := HN3.out
      rcases h2 with ⟨_, h2⟩ | ⟨gb, _, _, e, _, _, hc, _⟩
      · exact absurd h2 h0
      · cases e; exact hc
    go_wp2_with fail
    refine (below_small HD3.out 5 (by decide) (by decide)).mono ?_
    rintro e w4 ⟨x, x0, x1, rfl, hb, hd⟩
    have HN4 : Hid (NewB w2.heap.size w4 (.slice (some ⟨gb, 0, none⟩) P.length pc) P) := HN3.out.but hb G3.out.1
    have HB4 : Hid (Below w.heap.size w w4) := HB3.out.trans (hb.below GL.out.1 HB3.out.size)
    have HD4 : Hid (DrawOk w.heap.size g w4) := hd
    have G4 : Hid (w3.heap.size ≤ w4.heap.size) := hb.size
    clear hb hd HN3 HB3 HD3 h0
    by_cases q0 : x = 0
    · subst q0
      go_wp2_with fail
      refine (below_any HD4.out (P.length : Int) hn0).mono ?_
      rintro e w5 ⟨j, j0, j1, rfl, hb, hd⟩
      have HN5 : Hid (NewB w2.heap.size w5 (.slice (some ⟨gb, 0, none⟩) P.length pc) P) := HN4.out.but hb G3.out.1
      have HB5 : Hid (Below w.heap.size w w5) := HB4.out.trans (hb.below GL.out.1 HB4.out.size)
      have HD5 : Hid (DrawOk w.heap.size g w5) := hd
      have G5 : Hid (w4.heap.size ≤ w5.heap.size) := hb.size
      obtain ⟨J, rfl⟩ : ∃ J : Nat, j = (J : Int) := ⟨j.toNat, by omega⟩
      have hJ : Hid (J < P.length) := by show _ < _; omega
      have NA : Hid (Nums w5.heap.size [0, 1, 2, 3, 4, 255] (w5.alloc (.cells (([0, 1, 2, 3, 4, 255] : List Int).map (Value.int .i64)).toArray 3))) := nums_alloc _ _ _
      have HD6 : Hid (DrawOk w.heap.size g (w5.alloc (.cells (([0, 1, 2, 3, 4, 255] : List Int).map (Value.int .i64)).toArray 3))) := hd.alloc _
      have gne : Hid (w5.heap.size ≠ g) := by show _ ≠ _; have := GL.out; have := S2.out; have := G3.out; have := G4.out; have := G5.out; omega
      clear hb hd HN4 HB4 HD4
      go_wp2_with fail
      refine (pick_spec HD6.out 6 6 (by decide) (by decide) gne.out (by simp) NA.out rfl).mono ?_
      rintro e w6 ⟨z, rfl, hb, hd, hz⟩
      have hz2 : 0 ≤ z ∧ z ≤ 255 := by
        simp only [List.mem_cons, List.not_mem_nil, or_false] at hz
        omega
      have wz : IntKind.u8.wrap z = z := by rw [IntKind.wrap_u8]; omega
      have HN6 : Hid (NewB w2.heap.size w6 (.slice (some ⟨gb, 0, none⟩) P.length pc) P) := (HN5.out.keep (bAlloc (Below.refl _ _) _)).but hb G3.out.1
      have HB6 : Hid (Below w.heap.size w w6) := (bAlloc HB5.out _).trans (hb.below GL.out.1 (by simp; have := HB5.out.size; omega))
      obtain ⟨hs, ⟨u0, c0⟩, f0⟩ := HN6.out.set hJ.out z
      have RW : Hid (RawB (w6.setCell ⟨gb, J, none⟩ (.int .u8 z)) (.slice (some ⟨gb, 0, none⟩) P.length pc) (P.set J z)) := by
        exact newB_raw hs (isB_set HPL.out.1 J hz2.1 hz2.2) (by rw [List.length_set]; omega)
      have GB : Hid (w.heap.size ≤ gb) := by
        obtain ⟨_, h2⟩ := HN6.out
        rcases h2 with ⟨e, _⟩ | ⟨_, _, _, e, hB, _⟩
        · cases e
        · cases e
          have := HB1.out.size; have := S2.out
          show _ ≤ _; omega
      clear hb hd hz hs HN5 HN6 HD6 NA HB5 HD5
      have hJ2 := hJ.out
      generalize P.length = n at *
      go_wp2
      go_ret
      exact ⟨_, _, rfl, RW.out, below_setCell HB6.out GB.out _ _⟩
    · by_cases q1 : x = 1
      · subst q1
        go_wp2_with fail
        refine (below_any HD4.out ((P.length : Int) + 1) hn1).mono ?_
        rintro e w5 ⟨j, j0, j1, rfl, hb, hd⟩
        have HN5 : Hid (NewB w2.heap.size w5 (.slice (some ⟨gb, 0, none⟩) P.length pc) P) := HN4.out.but hb G3.out.1
        have HB5 : Hid (Below w.heap.size w w5) := HB4.out.trans (hb.below GL.out.1 HB4.out.size)
        obtain ⟨J, rfl⟩ : ∃ J : Nat, j = (J : Int) := ⟨j.toNat, by omega⟩
        obtain ⟨a', c', e', hPc, hc3, hy⟩ : ∃ a' c', (Value.slice (some ⟨gb, 0, none⟩) P.length pc) = .slice a' P.length c' ∧ P.length ≤ c' ∧ c' ≤ 9223372036854775807 ∧ Bys w5 a' P := by
          obtain ⟨a', c', e', _, _, h2, h3, h4⟩ := newB_raw HN5.out HPL.out.1 (Nat.le_trans HPL.out.2 (by decide))
          exact ⟨a', c', e', h2, h3, h4⟩
        obtain ⟨rfl, _, rfl⟩ := Value.slice.inj e'
        have lt : (P.take J).length = J := by rw [List.length_take]; omega
        have RW : Hid (RawB w5 (.slice (some ⟨gb, 0, none⟩) J pc) (P.take J)) := by
          refine ⟨_, pc, by rw [lt], isB_take HPL.out.1 J, by rw [lt]; omega, by rw [lt]; omega, hc3, ?_⟩
          have := hy.take J
          exact this
        have hJ : J ≤ pc := by omega
        have hJ2 : (J : Int) ≤ (pc : Int) := by omega
        have HSL : ∀ W, (Instr.slice 26 (.slice (some ⟨gb, 0, none⟩) P.length pc) none (some (.int .i64 (J : Int))) none).run Try.prog W = .ok (.slice (some ⟨gb, 0, none⟩) J pc) W := fun W => run_uptoB (by omega) (by omega) W
        clear hb hd e' hy lt HN4 HB4 HD4 HN5
        generalize P.length = n at *
        go_wp2
        go_ret
        exact ⟨_, _, rfl, RW.out, HB5.out⟩
      · by_cases q2 : x = 2
        · subst q2
          obtain ⟨a9, c9, w9, hr, hn9, hg9⟩ := growBs [0] HN4.out (Nat.le_trans G3.out.2 G4.out) (by simp; omega)
          have RW : Hid (RawB w9 (.slice a9 (P.length + 1) c9) (P ++ [0])) := by
            have := newB_raw (l := P ++ [0]) (by simpa using hn9) (by
              intro y hy
              rw [List.mem_append] at hy
              rcases hy with hy | hy
              · exact HPL.out.1 y hy
              · simp at hy; subst hy; decide) (by simp; omega)
            show RawB _ _ _
            simpa using this
          have R9 : Hid ((Builtin.append_ #[26, 26] 26 #[.slice (some ⟨gb, 0, none⟩) P.length pc, .slice (some ⟨w4.heap.size, 0, none⟩) 1 1]).run Try.prog (w4.alloc (.cells #[.int .u8 0] 5)) = .ok (.slice a9 (P.length + 1) c9) w9) := by
            have := hr
            show _ = _
            simpa [bvals] using this
          have B9 : Hid (Below w.heap.size w w9) := HB4.out.trans (hg9.below (fun k hk => Nat.le_trans (Nat.le_trans HB1.out.size S2.out) (HN4.out.row k hk)) HB4.out.size)
          clear hr hn9 hg9
          generalize P.length = n at *
          go_wp2_with (at_builtin; refine wpList_append_ty rfl _ _ 26 26 rfl _ _ _ rfl rfl R9.out ?_)
          go_ret
          exact ⟨_, _, rfl, RW.out, B9.out⟩
        · have RW : Hid (RawB w4 (.slice (some ⟨gb, 0, none⟩) P.length pc) P) := newB_raw HN4.out HPL.out.1 (Nat.le_trans HPL.out.2 (by decide))
          have n0 : (x == 0) = false := by simpa using q0
          have n1 : (x == 1) = false := by simpa using q1
          have n2 : (x == 2) = false := by simpa using q2
          generalize P.length = n at *
          go_wp2
          go_ret
          exact ⟨_, _, rfl, RW.out, HB4.out⟩
end Go.Proofs.Ytonkiipdobpfgaa
