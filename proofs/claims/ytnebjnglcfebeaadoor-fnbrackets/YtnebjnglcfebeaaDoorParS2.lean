/-
  Walks: the specification's l9Behind.
-/
import Derived.Test.YtnebjnglcfebeaaDoorParS1
import Derived.Test.YtnebjnglcfebeaaDoorTreeU
namespace Go.Proofs.YtnebjnglcfebeaaDoor
open Go.RowKit
set_option linter.unusedVariables false
set_option linter.unusedSimpArgs false
/-- The cells of a node in its list. -/
theorem NxB.at {B : Nat} {w : World} {a : Option Addr} {n c : Nat} {L : List Nb} (h : NxB B w (.slice a n c) L) {i : Nat} (hi : i < L.length) : ∃ o, a = some ⟨o, 0, none⟩ ∧ B ≤ o ∧ o < w.heap.size ∧ ∀ j x, (nd1 (L.getD i nb0))[j]? = some x → w.cell? ⟨o, i * 7 + j, none⟩ = some x := by
  obtain ⟨h0, h⟩ := h
  rcases h with ⟨e, h1⟩ | ⟨g, cap, cur, e, hB, hg, h2, h3, h4, h5⟩
  · omega
  · cases e
    refine ⟨g, rfl, hB, lt_of_heapA hg, fun j x hx => ?_⟩
    have hj : j < 7 := by have := (List.getElem?_eq_some_iff.1 hx).1; simpa [nd1] using this
    have h6 : (cur.toList.take (L.length * 7))[i * 7 + j]? = (ndv L)[i * 7 + j]? := by rw [h5]
    rw [List.getElem?_take_of_lt (by omega), ndv_at L i j hi hj, hx] at h6
    exact cell_at hg (by simpa using h6)
/-- What a list of nodes may hold. -/
def NdOk (d : Nd) : Prop := (d.k = 5 → 0 ≤ d.a ∧ d.a ≤ 1048576) ∧ 0 ≤ d.b ∧ d.b ≤ 1048576
theorem Br.size_pos : ∀ b : Br, 1 ≤ b.size
  | .num _ => Nat.le_refl _
  | .name _ => Nat.le_refl _
  | .set _ r => by simp [Br.size]
  | .one _ _ _ r => by simp [Br.size]
  | .two _ _ _ l r => by simp [Br.size]
theorem flat_ok : ∀ (b : Br) (m : Nat), m + b.size ≤ 1048576 → ∀ d, d ∈ b.flat m → NdOk d
  | .num l, m, h, d, hd => by simp [Br.flat] at hd; subst hd; simp [NdOk]
  | .name l, m, h, d, hd => by simp [Br.flat] at hd; subst hd; simp [NdOk]
  | .set a r, m, h, d, hd => by
    have hp := r.size_pos
    simp only [Br.size] at h
    simp only [Br.flat, List.mem_append, List.mem_singleton] at hd
    rcases hd with hd | rfl
    · exact flat_ok r m (by omega) d hd
    · simp [NdOk]; omega
  | .one s o h' r, m, h, d, hd => by
    have hp := r.size_pos
    simp only [Br.size] at h
    simp only [Br.flat, List.mem_append, List.mem_singleton] at hd
    rcases hd with hd | rfl
    · exact flat_ok r m (by omega) d hd
    · simp [NdOk]; omega
  | .two s o h' l r, m, h, d, hd => by
    have hp := r.size_pos
    have hq := l.size_pos
    simp only [Br.size] at h
    simp only [Br.flat, List.mem_append, List.mem_singleton] at hd
    rcases hd with (hd | hd) | rfl
    · exact flat_ok r m (by omega) d hd
    · exact flat_ok l (m + r.size) (by omega) d hd
    · simp [NdOk]; omega
def nbBehind (x : Nb) (m : Nat) : Nb := (x.1.behind m, x.2)
set_option maxRecDepth 20000 in
set_option maxHeartbeats 8000000 in
/-- l9Behind: nodes are put behind all others. -/
theorem behind_spec {w : World} {g g2 n c p uc : Nat} {lv v : Value} {ua : Option Addr} {L M : List Nb} (h : Cur w g lv p v) (hl : NL g w v L) (hu : NL g2 w (.slice ua M.length uc) M) (hg : g < g2) {m : Nat} (h1 : ∀ k, (Value.slice ua M.length uc).ownBlock = some k → k < m) (h2 : ∀ x, x ∈ M → x.1.l ≠ [] → x.2.2 < m) (hv : ∀ k, v.ownBlock = some k → k ≤ g2 ∨ m ≤ k) (ho : ∀ x, x ∈ M → NdOk x.1) (hm : L.length + M.length ≤ 1048576) :
    Calls Tryd.prog 38 #[.pointer (some ⟨g, 0, none⟩), .slice ua M.length uc] w fun r w' => r = .returned (.tuple #[]) ∧ ∃ v', St lv w g v w' p v' (L ++ M.map (fun x => nbBehind x L.length)) := by
  have H : Hid (St lv w g v w p v L) := St.start h hl
  have c2 := H.out.c2
  obtain ⟨va, vc, ev⟩ := hl.row.slice
  have HV : Hid (v = .slice va L.length vc) := ev
  have HU : Hid (NL g2 w (.slice ua M.length uc) M) := hu
  have HO : Hid (∀ x, x ∈ M → NdOk x.1) := ho
  have VK : Hid (∀ k, v.ownBlock = some k → k ≤ g2 ∨ m ≤ k) := hv
  have H1 : Hid (∀ k, (Value.slice ua M.length uc).ownBlock = some k → k < m) := h1
  have H2 : Hid (∀ x, x ∈ M → x.1.l ≠ [] → x.2.2 < m) := h2
  rw [ev] at c2
  clear h hl hu ho hv ev h1 h2
  go_enter Tryd.func38, Tryd.ntmps38
  go_wp2_with fail
  go_loopw [5] (fun i wr => ∃ (k : Nat) (v' : Value), k ≤ M.length ∧ i = .int .i64 k ∧ St lv w g v wr p v' (L ++ (M.take k).map (fun x => nbBehind x L.length))) (fun i _ => M.length - (intOf i).toNat)
  case atStart => exact ⟨0, v, by omega, rfl, by simpa using H.out⟩
  case round =>
    obtain ⟨k, v', hk, rfl, hS⟩ := hrel
    have HS : Hid (St lv w g v wr p v' (L ++ (M.take k).map (fun x => nbBehind x L.length))) := hS
    clear hS c2
    by_cases hlt : (k : Int) < (M.length : Int)
    · have L1 : k < M.length := by omega
      have UW : NL g2 wr (.slice ua M.length uc) M := HU.out.sameM H1.out H2.out fun j q1 q3 q2 => HS.out.chg.block j q2 (by omega) (fun e => by rcases VK.out j e with q | q <;> omega)
      obtain ⟨o, rfl, hB, hol, hcell⟩ := UW.row.at L1
      have MX : M[k]? = some (M.getD k nb0) := by simp [List.getD_eq_getElem?_getD, L1]
      obtain ⟨X, hX⟩ : ∃ X, X = M.getD k nb0 := ⟨_, rfl⟩
      rw [← hX] at hcell MX
      have XM : X ∈ M := by rw [List.mem_iff_getElem?]; exact ⟨k, MX⟩
      have XO := HO.out X XM
      have XP := UW.nums X XM
      obtain ⟨d, xv, xb⟩ := X
      obtain ⟨k0, a0, b0, s0, o0, h0, l0⟩ := d
      have q0 := hcell 0 _ rfl
      have q1 := hcell 1 _ rfl
      have q2 := hcell 2 _ rfl
      have q3 := hcell 3 _ rfl
      have q4 := hcell 4 _ rfl
      have q5 := hcell 5 _ rfl
      have q6 := hcell 6 _ rfl
      rw [Nat.add_zero] at q0
      simp only at q0 q1 q2 q3 q4 q5 q6
      clear hcell
      have XP0 := XP.1
      obtain ⟨xa, xc, ex, hx⟩ := XP.1
      clear hx
      simp only at ex
      subst ex
      have s2 := HS.out.c2
      obtain ⟨va', vc', ev'⟩ := HS.out.nl.row.slice
      have sf := HS.out.free 2
      rw [ev'] at s2
      have XH : Hid (Piece xb (xb + 1) wr (.slice xa l0.length xc) l0 ∧ (l0 ≠ [] → g < xb ∧ v'.ownBlock ≠ some xb)) := ⟨XP0, fun hl => ⟨by have b1 : g2 < xb := (XP.2 hl).1; omega, fun e => by
        have b1 : g2 < xb := (XP.2 hl).1
        have b2 : xb < w.heap.size := piece_lt (HU.out.nums _ XM).1 hl
        rcases HS.out.own _ e with q | q
        · have b3 : xb < m := H2.out _ XM hl
          rcases VK.out _ q with q | q <;> omega
        · omega⟩⟩
      rw [ev'] at XH HS
      have NX : Hid (∀ d : Nd, d = (Nd.mk k0 a0 b0 s0 o0 h0 l0).behind L.length → (L ++ (M.take k).map (fun x => nbBehind x L.length)) ++ [(d, Value.slice xa l0.length xc, xb)] = L ++ (M.take (k + 1)).map (fun x => nbBehind x L.length)) := fun d hd => by
        rw [List.take_add_one, MX, hd]
        simp [nbBehind]
      have LK : Hid ((L ++ (M.take k).map (fun x => nbBehind x L.length)).length = L.length + k) := by show _ = _; simp; omega
      generalize hLL : L ++ (M.take k).map (fun x => nbBehind x L.length) = LL at *
      have XB := XO.2
      have XA := XO.1
      simp only at XA XB
      clear XO XP XP0 HU UW MX XM ev' hLL H1 H2
      by_cases h5 : k0 = 5
      · subst h5
        obtain ⟨ya, yb⟩ := XA rfl
        have wa : IntKind.i64.wrap (a0 + (L.length : Int)) = a0 + (L.length : Int) := by rw [IntKind.wrap_i64]; omega
        have wb : IntKind.i64.wrap (b0 + (L.length : Int)) = b0 + (L.length : Int) := by rw [IntKind.wrap_i64]; omega
        go_wp2_with fail
        obtain ⟨W1, hW1⟩ : ∃ W1, W1 = wr.alloc (.cells #[.int .i64 (5), .int .i64 (a0 + (L.length : Int)), .int .i64 (b0 + (L.length : Int)), .int .i64 s0, .int .i64 o0, .int .i64 h0, .slice xa l0.length xc] 67) := ⟨_, rfl⟩
        rw [← hW1]
        have BW : Hid (Below wr.heap.size wr W1) := by rw [hW1]; exact bAlloc (Below.refl _ _) _
        have z0 : W1.heap[wr.heap.size]? = some (.cells #[.int .i64 (5), .int .i64 (a0 + (L.length : Int)), .int .i64 (b0 + (L.length : Int)), .int .i64 s0, .int .i64 o0, .int .i64 h0, .slice xa l0.length xc] 67 (0, 0)) := by rw [hW1]; exact heap_alloc_new _ _
        clear hW1
        have S1 : Hid (St lv w g v W1 p (.slice va' LL.length vc') LL) := HS.out.keep BW.out
        have y0 := cell_at (k := 0) z0 rfl
        have y1 := cell_at (k := 1) z0 rfl
        have y2 := cell_at (k := 2) z0 rfl
        have y3 := cell_at (k := 3) z0 rfl
        have y4 := cell_at (k := 4) z0 rfl
        have y5 := cell_at (k := 5) z0 rfl
        have y6 := cell_at (k := 6) z0 rfl
        have t2 := S1.out.c2
        have t3 : ∀ O : Obj, (W1.alloc O).cell? ⟨g, 2, none⟩ = some (.slice va' LL.length vc') := fun O => (S1.out.keep (bAlloc (Below.refl _ _) O)).c2
        obtain ⟨a9, c9, w9, hr, ⟨u9, hu9⟩, hf9, hS9⟩ := S1.out.app (V := (W1.alloc (.cells #[.int .i64 (5), .int .i64 (a0 + (L.length : Int)), .int .i64 (b0 + (L.length : Int)), .int .i64 s0, .int .i64 o0, .int .i64 h0, .slice xa l0.length xc] 67)).drew) (o := W1.heap.size) ((bAlloc (Below.refl _ _) _).drew) (⟨5, a0 + (L.length : Int), b0 + (L.length : Int), s0, o0, h0, l0⟩, .slice xa l0.length xc, xb) (heap_alloc_new W1 _) (XH.out.1.keep BW.out) XH.out.2 (by have := LK.out; omega)
        have R9 : Hid (∀ ty, (Builtin.append_ #[24, 24] ty #[.slice va' LL.length vc', .slice (some ⟨W1.heap.size, 0, none⟩) 1 1]).run Tryd.prog (W1.alloc (.cells #[.int .i64 (5), .int .i64 (a0 + (L.length : Int)), .int .i64 (b0 + (L.length : Int)), .int .i64 s0, .int .i64 o0, .int .i64 h0, .slice xa l0.length xc] 67)).drew = .ok (.slice a9 (LL.length + 1) c9) w9) := hr
        have S9 : Hid (St lv w g v (w9.setCell ⟨g, 2, none⟩ (.slice a9 (LL.length + 1) c9)) p (.slice a9 (LL.length + 1) c9) (L ++ (M.take (k + 1)).map (fun x => nbBehind x L.length))) := by rw [← NX.out _ rfl]; exact hS9
        have NG : ¬ W1.heap.size = g := by have := S1.out.lt; omega
        have NG' : ¬ g = W1.heap.size := by have := S1.out.lt; omega
        clear hr hS9 XH NX HS z0 S1
        go_region_law (refine step_append_ty (by rfl) (.tmp 48) (.tmp 50) 24 24 (by rfl) _ _ _ (by rfl) (by rfl) (R9.out _) ?_)
        all_goals
          go_wp2
          go_roundw
          case rel => exact ⟨k + 1, _, by omega, by go_num, S9.out⟩
          case measure => simp [intOf]; omega
      · have e5 : (k0 == 5) = false := by simpa using h5
        by_cases h4 : k0 = 4
        · subst h4
          have wb : IntKind.i64.wrap (b0 + (L.length : Int)) = b0 + (L.length : Int) := by rw [IntKind.wrap_i64]; omega
          go_wp2_with fail
          obtain ⟨W1, hW1⟩ : ∃ W1, W1 = wr.alloc (.cells #[.int .i64 (4), .int .i64 (a0), .int .i64 (b0 + (L.length : Int)), .int .i64 s0, .int .i64 o0, .int .i64 h0, .slice xa l0.length xc] 67) := ⟨_, rfl⟩
          rw [← hW1]
          have BW : Hid (Below wr.heap.size wr W1) := by rw [hW1]; exact bAlloc (Below.refl _ _) _
          have z0 : W1.heap[wr.heap.size]? = some (.cells #[.int .i64 (4), .int .i64 (a0), .int .i64 (b0 + (L.length : Int)), .int .i64 s0, .int .i64 o0, .int .i64 h0, .slice xa l0.length xc] 67 (0, 0)) := by rw [hW1]; exact heap_alloc_new _ _
          clear hW1
          have S1 : Hid (St lv w g v W1 p (.slice va' LL.length vc') LL) := HS.out.keep BW.out
          have y0 := cell_at (k := 0) z0 rfl
          have y1 := cell_at (k := 1) z0 rfl
          have y2 := cell_at (k := 2) z0 rfl
          have y3 := cell_at (k := 3) z0 rfl
          have y4 := cell_at (k := 4) z0 rfl
          have y5 := cell_at (k := 5) z0 rfl
          have y6 := cell_at (k := 6) z0 rfl
          have t2 := S1.out.c2
          have t3 : ∀ O : Obj, (W1.alloc O).cell? ⟨g, 2, none⟩ = some (.slice va' LL.length vc') := fun O => (S1.out.keep (bAlloc (Below.refl _ _) O)).c2
          obtain ⟨a9, c9, w9, hr, ⟨u9, hu9⟩, hf9, hS9⟩ := S1.out.app (V := (W1.alloc (.cells #[.int .i64 (4), .int .i64 (a0), .int .i64 (b0 + (L.length : Int)), .int .i64 s0, .int .i64 o0, .int .i64 h0, .slice xa l0.length xc] 67)).drew) (o := W1.heap.size) ((bAlloc (Below.refl _ _) _).drew) (⟨4, a0, b0 + (L.length : Int), s0, o0, h0, l0⟩, .slice xa l0.length xc, xb) (heap_alloc_new W1 _) (XH.out.1.keep BW.out) XH.out.2 (by have := LK.out; omega)
          have R9 : Hid (∀ ty, (Builtin.append_ #[24, 24] ty #[.slice va' LL.length vc', .slice (some ⟨W1.heap.size, 0, none⟩) 1 1]).run Tryd.prog (W1.alloc (.cells #[.int .i64 (4), .int .i64 (a0), .int .i64 (b0 + (L.length : Int)), .int .i64 s0, .int .i64 o0, .int .i64 h0, .slice xa l0.length xc] 67)).drew = .ok (.slice a9 (LL.length + 1) c9) w9) := hr
          have S9 : Hid (St lv w g v (w9.setCell ⟨g, 2, none⟩ (.slice a9 (LL.length + 1) c9)) p (.slice a9 (LL.length + 1) c9) (L ++ (M.take (k + 1)).map (fun x => nbBehind x L.length))) := by rw [← NX.out _ rfl]; exact hS9
          have NG : ¬ W1.heap.size = g := by have := S1.out.lt; omega
          have NG' : ¬ g = W1.heap.size := by have := S1.out.lt; omega
          clear hr hS9 XH NX HS z0 S1
          go_region_law (refine step_append_ty (by rfl) (.tmp 48) (.tmp 50) 24 24 (by rfl) _ _ _ (by rfl) (by rfl) (R9.out _) ?_)
          all_goals
            go_wp2
            go_roundw
            case rel => exact ⟨k + 1, _, by omega, by go_num, S9.out⟩
            case measure => simp [intOf]; omega
        · have e4 : (k0 == 4) = false := by simpa using h4
          by_cases h3 : k0 = 3
          · subst h3
            have wb : IntKind.i64.wrap (b0 + (L.length : Int)) = b0 + (L.length : Int) := by rw [IntKind.wrap_i64]; omega
            go_wp2_with fail
            obtain ⟨W1, hW1⟩ : ∃ W1, W1 = wr.alloc (.cells #[.int .i64 (3), .int .i64 (a0), .int .i64 (b0 + (L.length : Int)), .int .i64 s0, .int .i64 o0, .int .i64 h0, .slice xa l0.length xc] 67) := ⟨_, rfl⟩
            rw [← hW1]
            have BW : Hid (Below wr.heap.size wr W1) := by rw [hW1]; exact bAlloc (Below.refl _ _) _
            have z0 : W1.heap[wr.heap.size]? = some (.cells #[.int .i64 (3), .int .i64 (a0), .int .i64 (b0 + (L.length : Int)), .int .i64 s0, .int .i64 o0, .int .i64 h0, .slice xa l0.length xc] 67 (0, 0)) := by rw [hW1]; exact heap_alloc_new _ _
            clear hW1
            have S1 : Hid (St lv w g v W1 p (.slice va' LL.length vc') LL) := HS.out.keep BW.out
            have y0 := cell_at (k := 0) z0 rfl
            have y1 := cell_at (k := 1) z0 rfl
            have y2 := cell_at (k := 2) z0 rfl
            have y3 := cell_at (k := 3) z0 rfl
            have y4 := cell_at (k := 4) z0 rfl
            have y5 := cell_at (k := 5) z0 rfl
            have y6 := cell_at (k := 6) z0 rfl
            have t2 := S1.out.c2
            have t3 : ∀ O : Obj, (W1.alloc O).cell? ⟨g, 2, none⟩ = some (.slice va' LL.length vc') := fun O => (S1.out.keep (bAlloc (Below.refl _ _) O)).c2
            obtain ⟨a9, c9, w9, hr, ⟨u9, hu9⟩, hf9, hS9⟩ := S1.out.app (V := (W1.alloc (.cells #[.int .i64 (3), .int .i64 (a0), .int .i64 (b0 + (L.length : Int)), .int .i64 s0, .int .i64 o0, .int .i64 h0, .slice xa l0.length xc] 67)).drew) (o := W1.heap.size) ((bAlloc (Below.refl _ _) _).drew) (⟨3, a0, b0 + (L.length : Int), s0, o0, h0, l0⟩, .slice xa l0.length xc, xb) (heap_alloc_new W1 _) (XH.out.1.keep BW.out) XH.out.2 (by have := LK.out; omega)
            have R9 : Hid (∀ ty, (Builtin.append_ #[24, 24] ty #[.slice va' LL.length vc', .slice (some ⟨W1.heap.size, 0, none⟩) 1 1]).run Tryd.prog (W1.alloc (.cells #[.int .i64 (3), .int .i64 (a0), .int .i64 (b0 + (L.length : Int)), .int .i64 s0, .int .i64 o0, .int .i64 h0, .slice xa l0.length xc] 67)).drew = .ok (.slice a9 (LL.length + 1) c9) w9) := hr
            have S9 : Hid (St lv w g v (w9.setCell ⟨g, 2, none⟩ (.slice a9 (LL.length + 1) c9)) p (.slice a9 (LL.length + 1) c9) (L ++ (M.take (k + 1)).map (fun x => nbBehind x L.length))) := by rw [← NX.out _ rfl]; exact hS9
            have NG : ¬ W1.heap.size = g := by have := S1.out.lt; omega
            have NG' : ¬ g = W1.heap.size := by have := S1.out.lt; omega
            clear hr hS9 XH NX HS z0 S1
            go_region_law (refine step_append_ty (by rfl) (.tmp 48) (.tmp 50) 24 24 (by rfl) _ _ _ (by rfl) (by rfl) (R9.out _) ?_)
            all_goals
              go_wp2
              go_roundw
              case rel => exact ⟨k + 1, _, by omega, by go_num, S9.out⟩
              case measure => simp [intOf]; omega
          · have e3 : (k0 == 3) = false := by simpa using h3
            go_wp2_with fail
            obtain ⟨W1, hW1⟩ : ∃ W1, W1 = wr.alloc (.cells #[.int .i64 (k0), .int .i64 (a0), .int .i64 (b0), .int .i64 s0, .int .i64 o0, .int .i64 h0, .slice xa l0.length xc] 67) := ⟨_, rfl⟩
            rw [← hW1]
            have BW : Hid (Below wr.heap.size wr W1) := by rw [hW1]; exact bAlloc (Below.refl _ _) _
            have z0 : W1.heap[wr.heap.size]? = some (.cells #[.int .i64 (k0), .int .i64 (a0), .int .i64 (b0), .int .i64 s0, .int .i64 o0, .int .i64 h0, .slice xa l0.length xc] 67 (0, 0)) := by rw [hW1]; exact heap_alloc_new _ _
            clear hW1
            have S1 : Hid (St lv w g v W1 p (.slice va' LL.length vc') LL) := HS.out.keep BW.out
            have y0 := cell_at (k := 0) z0 rfl
            have y1 := cell_at (k := 1) z0 rfl
            have y2 := cell_at (k := 2) z0 rfl
            have y3 := cell_at (k := 3) z0 rfl
            have y4 := cell_at (k := 4) z0 rfl
            have y5 := cell_at (k := 5) z0 rfl
            have y6 := cell_at (k := 6) z0 rfl
            have t2 := S1.out.c2
            have t3 : ∀ O : Obj, (W1.alloc O).cell? ⟨g, 2, none⟩ = some (.slice va' LL.length vc') := fun O => (S1.out.keep (bAlloc (Below.refl _ _) O)).c2
            obtain ⟨a9, c9, w9, hr, ⟨u9, hu9⟩, hf9, hS9⟩ := S1.out.app (V := (W1.alloc (.cells #[.int .i64 (k0), .int .i64 (a0), .int .i64 (b0), .int .i64 s0, .int .i64 o0, .int .i64 h0, .slice xa l0.length xc] 67)).drew) (o := W1.heap.size) ((bAlloc (Below.refl _ _) _).drew) (⟨k0, a0, b0, s0, o0, h0, l0⟩, .slice xa l0.length xc, xb) (heap_alloc_new W1 _) (XH.out.1.keep BW.out) XH.out.2 (by have := LK.out; omega)
            have R9 : Hid (∀ ty, (Builtin.append_ #[24, 24] ty #[.slice va' LL.length vc', .slice (some ⟨W1.heap.size, 0, none⟩) 1 1]).run Tryd.prog (W1.alloc (.cells #[.int .i64 (k0), .int .i64 (a0), .int .i64 (b0), .int .i64 s0, .int .i64 o0, .int .i64 h0, .slice xa l0.length xc] 67)).drew = .ok (.slice a9 (LL.length + 1) c9) w9) := hr
            have S9 : Hid (St lv w g v (w9.setCell ⟨g, 2, none⟩ (.slice a9 (LL.length + 1) c9)) p (.slice a9 (LL.length + 1) c9) (L ++ (M.take (k + 1)).map (fun x => nbBehind x L.length))) := by rw [← NX.out _ (by unfold Nd.behind; rw [if_neg (by simpa using h5), if_neg (by simp; omega)])]; exact hS9
            have NG : ¬ W1.heap.size = g := by have := S1.out.lt; omega
            have NG' : ¬ g = W1.heap.size := by have := S1.out.lt; omega
            clear hr hS9 XH NX HS z0 S1
            go_region_law (refine step_append_ty (by rfl) (.tmp 48) (.tmp 50) 24 24 (by rfl) _ _ _ (by rfl) (by rfl) (R9.out _) ?_)
            all_goals
              go_wp2
              go_roundw
              case rel => exact ⟨k + 1, _, by omega, by go_num, S9.out⟩
              case measure => simp [intOf]; omega
    · obtain rfl : k = M.length := by omega
      rw [List.take_length] at HS
      go_wp2
      go_end0
      exact ⟨rfl, _, HS.out⟩
end Go.Proofs.YtnebjnglcfebeaaDoor
