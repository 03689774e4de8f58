/-
  Walks: the program's packed.
-/
import Derived.Test.YtmmjidhpmbcoiaaHeapK
import Derived.Test.YtmmjidhpmbcoiaaHeapF2
import Derived.Test.YtmmjidhpmbcoiaaHeapC
import Derived.Test.YtmmjidhpmbcoiaaHeapV
import Derived.Test.YtmmjidhpmbcoiaaCutI
import Derived.Deep.RegionLaw
import Derived.Deep.Cut
namespace Go.Proofs.Ytmmjidhpmbcoiaa
open Go.RowKit
set_option linter.unusedVariables false
set_option linter.unusedSimpArgs false
theorem make_cellsE (n : Nat) (hn : n ≤ 1048576) : ∃ Z : Array Value, (∀ w, (Instr.makeSlice 26 (.int .i64 (n : Int)) (.int .i64 (n : Int))).run Try.prog w = .ok (.slice (some ⟨w.heap.size, 0, none⟩) n n) (w.alloc (.cells Z 47))) ∧ ∀ (w : World) (g : Nat) (t : TypeId), w.heap[g]? = some (.cells Z t (0, 0)) → CBlk w g n (fun _ => cel0) := by
  have hi := info_cell
  cases hq : Try.prog.info? 47 with
  | none => rw [hq] at hi; cases hi
  | some i =>
    rw [hq] at hi
    simp at hi
    obtain ⟨z1, z2, z3⟩ := hi
    refine ⟨madeCells (Value.agg #[.int .i64 0, .int .i64 0, .bool false]).cells (n * 3), fun w => ?_, fun w g t h => ⟨_, _, h, fun i hi => ?_⟩⟩
    · have q := run_make (P := Try.prog) w 26 47 i _ Try.underlying26 hq z1 .i64 .i64 (n : Int) (n : Int) (by omega) (by omega) (by rw [z3]; omega) (by omega)
      rw [z2, Int.toNat_natCast] at q
      exact q
    · have hsz : (madeCells (Value.agg #[.int .i64 0, .int .i64 0, .bool false]).cells (n * 3)).size = n * 3 := by rw [size_madeCells]
      have at' : ∀ j, j < n * 3 → (madeCells (Value.agg #[.int .i64 0, .int .i64 0, .bool false]).cells (n * 3))[j]? = some (if j % 3 = 2 then .bool false else .int .i64 0) := by
        intro j hj
        rw [Array.getElem?_eq_getElem (by omega)]
        have : j % 3 = 0 ∨ j % 3 = 1 ∨ j % 3 = 2 := by omega
        rcases this with h | h | h <;> simp [madeCells, Value.cells, h]
      refine ⟨?_, ?_, ?_⟩
      · rw [at' _ (by omega), if_neg (by omega)]; rfl
      · rw [at' _ (by omega), if_neg (by omega)]; rfl
      · rw [at' _ (by omega), if_pos (by omega)]; rfl
theorem a3_0 (V : World) (a b c : Obj) : (((V.alloc a).alloc b).alloc c).heap[V.heap.size]? = some a := ((bAlloc (bAlloc (Below.refl (V.alloc a).heap.size (V.alloc a)) b) c).block V.heap.size (by simp)).trans (heap_alloc_new V a)
theorem a3_1 (V : World) (a b c : Obj) : (((V.alloc a).alloc b).alloc c).heap[V.heap.size + 1]? = some b := ((bAlloc (Below.refl ((V.alloc a).alloc b).heap.size ((V.alloc a).alloc b)) c).block (V.heap.size + 1) (by simp)).trans (by simpa using heap_alloc_new (V.alloc a) b)
theorem a3_2 (V : World) (a b c : Obj) : (((V.alloc a).alloc b).alloc c).heap[V.heap.size + 1 + 1]? = some c := by simpa using heap_alloc_new ((V.alloc a).alloc b) c
theorem hw3 {w' : World} {L g3 gw gc m n : Nat} {Z : Array Value} {C : Nat → Cel} (hZ : ∀ (w : World) (g : Nat) (t : TypeId), w.heap[g]? = some (.cells Z t (0, 0)) → CBlk w g n C) (h3 : w'.heap[g3]? = some (.cells #[.slice (some ⟨gw, 0, none⟩) m m, .int .i64 0, .slice (some ⟨gc, 0, none⟩) n n] 28 (0, 0))) (hw : w'.heap[gw]? = some (.cells (vals (List.replicate m 0)) 3 (0, 0))) (hc : w'.heap[gc]? = some (.cells Z 47 (0, 0))) (hd : L ≤ g3 ∧ L ≤ gw ∧ L ≤ gc ∧ g3 ≠ gw ∧ g3 ≠ gc ∧ gw ≠ gc) : HW L g3 gw gc w' (List.replicate m 0) 0 n C n :=
  ⟨hd, Nat.le_refl _, by rw [List.length_replicate]; exact h3, hw, .inr (hZ _ _ _ hc)⟩
theorem pk_paste {W : List Int} {t : Int} {n : Nat} {E : Nat → Cel} {hs : List Nat} (h : hOk W.length t n E) (ho : Ord E n hs) {k : Nat} (hk : k < hs.length) :
    paste (pkX W E hs k ++ List.replicate (W.length - offs E hs k) 0) (offs E hs k) (wds W (E (hn hs k))) (wds W (E (hn hs k))).length = pkX W E hs (k + 1) ++ List.replicate (W.length - offs E hs (k + 1)) 0 := by
  have lx := pkX_length h ho k (by omega)
  have lw := wds_length h ho hk
  have e1 : (pkX W E hs k ++ List.replicate (W.length - offs E hs k) 0).take (offs E hs k) = pkX W E hs k := by rw [← lx]; simp
  unfold paste
  rw [e1, List.take_length, ← lx, List.drop_append, lx]
  simp only [pkX, offs, List.append_assoc]
  congr 1
  congr 1
  rw [List.drop_eq_nil_of_le (by omega), List.nil_append, List.drop_replicate, lw]
  congr 1
  omega
theorem pk_len {W : List Int} {t : Int} {n : Nat} {E : Nat → Cel} {hs : List Nat} (h : hOk W.length t n E) (ho : Ord E n hs) {k : Nat} (hk : k ≤ hs.length) : (pkX W E hs k ++ List.replicate (W.length - offs E hs k) 0).length = W.length := by
  rw [List.length_append, pkX_length h ho k hk, List.length_replicate]
  have : offs E hs k ≤ W.length := by
    cases k with
    | zero => simp [offs]
    | succ k =>
      have := offs_end h ho (show k < hs.length by omega)
      have := h.2.2.1
      omega
  omega
theorem step_copyI {ops : Array Oper} {o : Oper} {a : Act} {w w' : World} {K : Act → World → Prop} {Q : Exit → Act → World → Prop} {X : Prop} (hgd : o.guard = none) (d s : Operand) (dT sT : TypeId)
    (ho : o.op = .call { callee := .builtin .copy, args := #[d, s], argTypes := #[dT, sT] }) (x y v : Value) (hd : a.eval d = x) (hs : a.eval s = y)
    (hrun : (Builtin.copy_ #[dT, sT] o.type #[x, y]).run Try.prog w = .ok v w') (hK : K (a.put o.dst v) w') :
    if Region.wanted o (yielded ops a.tmps) = true then Oper.wp Try.prog o a w K Q else X := by
  have hw : Region.wanted o (yielded ops a.tmps) = true := by simp [Region.wanted, hgd]
  rw [if_pos hw]
  unfold Oper.wp
  simp [execOp, ho, resolve, invoke, builtin, hd, hs, hrun, Result.andThen]
  exact hK
set_option maxRecDepth 20000 in
set_option maxHeartbeats 16000000 in
theorem packed_impl2 (hS : SortsBy) (hS0 : SortsNone) {w : World} {v : Value} {W : List Int} {t : Int} {n : Nat} {E : Nat → Cel} (h : HI w v W t n E) (hk : hOk W.length t n E) :
    Calls Try.prog 61 #[v] w fun e w' => ∃ (v' : Value) (hs : List Nat), e = .returned v' ∧ Ord E n hs ∧ HX w.heap.size w'.heap.size w' v' (pkX W E hs hs.length ++ List.replicate (W.length - offs E hs hs.length) 0) (offs E hs hs.length) n (pkC E hs (fun _ => cel0) hs.length) ∧ (∃ x y a, v' = .agg #[x, y, .slice a n n]) ∧ Below w.heap.size w w' := by
  have HH : Hid (HI w v W t n E) := h
  obtain ⟨wa, wc_, ca, cc, rfl, h1, h2, h3, h4⟩ := h
  have H1 : Hid (Ints w wa W) := h1
  have H1c : Hid (W.length ≤ wc_) := h2
  have H3 : Hid (CsA w ca n E) := h3
  have HK : Hid (hOk W.length t n E) := hk
  have HS : Hid (SortsBy ∧ SortsNone) := ⟨hS, hS0⟩
  have m6 : W.length ≤ 6000 := hk.1
  have n2 : n ≤ 200 := hk.2.2.2.1
  have hmi : ∀ w, (Instr.makeSlice 25 (.int .i64 (W.length : Int)) (.int .i64 (W.length : Int))).run Try.prog w = .ok (.slice (some ⟨w.heap.size, 0, none⟩) W.length W.length) (w.alloc (.cells (vals (List.replicate W.length 0)) 3)) := fun w => make_ints W.length (by omega) w
  obtain ⟨Z, hmc, hZ⟩ := make_cellsE n (by omega)
  have HZ : Hid (∀ (w : World) (g : Nat) (t : TypeId), w.heap[g]? = some (.cells Z t (0, 0)) → CBlk w g n (fun _ => cel0)) := hZ
  clear h1 h2 h3 h4 hk hS hS0 hZ
  go_enter Try.func61, Try.ntmps61
  go_wp2_with fail
  generalize hV : (w.alloc (.cells #[.slice wa W.length wc_, .int .i64 t, .slice ca n cc] 28)).alloc (.cells #[.slice none 0 0, .int .i64 0, .slice none 0 0] 28) = V
  have B1 : Hid (Below w.heap.size w V) := by rw [← hV]; exact bAlloc (bAlloc (Below.refl _ _) _) _
  have X1 : Hid (Box3 V w.heap.size (.slice wa W.length wc_) (.int .i64 t) (.slice ca n cc) 28) := by rw [← hV]; exact (box3_new _ _ _ _ _).alloc _
  have Y1 : Hid (Box3 V (w.heap.size + 1) (.slice none 0 0) (.int .i64 0) (.slice none 0 0) 28) := by
    have := box3_new (w.alloc (.cells #[.slice wa W.length wc_, .int .i64 t, .slice ca n cc] 28)) (.slice none 0 0) (.int .i64 0) (.slice none 0 0) 28
    show Box3 _ _ _ _ _ _
    rw [← hV]; simpa using this
  clear hV
  have KB : Hid (∀ W' : World, Below V.heap.size V W' → W'.cell? ⟨w.heap.size, 0, none⟩ = some (.slice wa W.length wc_) ∧ W'.cell? ⟨w.heap.size, 2, none⟩ = some (.slice ca n cc)) := fun W' hb => ⟨(X1.out.keep hb).c0, (X1.out.keep hb).c2⟩
  go_cut [3] from 7 (fun p w' => ∃ (g3 gw gc : Nat), p = .pointer (some ⟨g3, 0, none⟩) ∧ HW V.heap.size g3 gw gc w' (List.replicate W.length 0) 0 n (fun _ => cel0) n ∧ Below V.heap.size V w')
  case first =>
    have u0 := X1.out.c0
    have u2 := X1.out.c2
    have nu0 := World.new_ne V ⟨w.heap.size, 0, none⟩ u0
    have nu2 := World.new_ne V ⟨w.heap.size, 2, none⟩ u2
    go_region_held3 (fun w' => w'.cell? ⟨w.heap.size, 0, none⟩ = some (.slice wa W.length wc_) ∧ w'.cell? ⟨w.heap.size, 2, none⟩ = some (.slice ca n cc))
      (first | (refine KB.out _ ?_; (repeat first | exact Below.refl _ _ | refine bAlloc ?_ _ | refine Below.drew ?_ | refine below_setCell ?_ (by omega) _ _); done) | go_keep)
      (fail)
    all_goals
      go_wp2_with fail
      go_meet
      case rel =>
        first
          | exact ⟨_, V.heap.size + 1, V.heap.size + 1 + 1, rfl, hw3 HZ.out (a3_0 _ _ _ _) (a3_1 _ _ _ _) (a3_2 _ _ _ _) (by omega), Below.drew (bAlloc (bAlloc (bAlloc (Below.refl _ _) _) _) _)⟩
          | exact ⟨_, V.heap.size + 1 + 1, V.heap.size + 1, rfl, hw3 HZ.out (a3_0 _ _ _ _) (a3_2 _ _ _ _) (a3_1 _ _ _ _) (by omega), Below.drew (bAlloc (bAlloc (bAlloc (Below.refl _ _) _) _) _)⟩
          | exact ⟨_, V.heap.size, V.heap.size + 1 + 1, rfl, hw3 HZ.out (a3_1 _ _ _ _) (a3_0 _ _ _ _) (a3_2 _ _ _ _) (by omega), Below.drew (bAlloc (bAlloc (bAlloc (Below.refl _ _) _) _) _)⟩
          | exact ⟨_, V.heap.size + 1 + 1, V.heap.size, rfl, hw3 HZ.out (a3_1 _ _ _ _) (a3_2 _ _ _ _) (a3_0 _ _ _ _) (by omega), Below.drew (bAlloc (bAlloc (bAlloc (Below.refl _ _) _) _) _)⟩
          | exact ⟨_, V.heap.size, V.heap.size + 1, rfl, hw3 HZ.out (a3_2 _ _ _ _) (a3_0 _ _ _ _) (a3_1 _ _ _ _) (by omega), Below.drew (bAlloc (bAlloc (bAlloc (Below.refl _ _) _) _) _)⟩
          | exact ⟨_, V.heap.size + 1, V.heap.size, rfl, hw3 HZ.out (a3_2 _ _ _ _) (a3_1 _ _ _ _) (a3_0 _ _ _ _) (by omega), Below.drew (bAlloc (bAlloc (bAlloc (Below.refl _ _) _) _) _)⟩
  case rest =>
    obtain ⟨g3, gw, gc, rfl, hH, hb⟩ := hcut
    have H0 : Hid (HW V.heap.size g3 gw gc wc (List.replicate W.length 0) 0 n (fun _ => cel0) n) := hH
    have BC : Hid (Below V.heap.size V wc) := hb
    have SG : Hid (g3 < wc.heap.size ∧ gw < wc.heap.size ∧ V.heap.size ≤ g3 ∧ V.heap.size ≤ gw ∧ V.heap.size ≤ gc ∧ (n = 0 ∨ gc < wc.heap.size)) := ⟨hH.lt3, hH.ltw, hH.1.1, hH.1.2.1, hH.1.2.2.1, hH.2.2.2.2.imp_right fun h => h.lt⟩
    have LV : Hid (w.heap.size + 1 < V.heap.size) := Y1.out.lt
    clear hH hb hmi hmc HZ KB
    have XC := X1.out.keep BC.out
    have x0 := XC.c0
    have x1 := XC.c1
    have x2 := XC.c2
    clear XC
    go_wp2_with fail
    refine (inOrder_impl HS.out.1 HS.out.2 (HH.out.keep (bTrans B1.out BC.out)) n2).mono ?_
    rintro r w2 ⟨u, hs, rfl, hN, hO, hb⟩
    have HO : Hid (Ord E n hs) := hO
    have P2 : Hid (Piece wc.heap.size w2.heap.size w2 u (nI hs)) := hN.piece
    obtain ⟨ua, uc, rfl, _⟩ := hN.ints
    have H2 : Hid (HW V.heap.size g3 gw gc w2 (pkX W E hs 0 ++ List.replicate (W.length - offs E hs 0) 0) ((offs E hs 0 : Nat) : Int) n (pkC E hs (fun _ => cel0) 0) n) := H0.out.keep hb
    have B2 : Hid (Below V.heap.size V w2) := bTrans BC.out hb
    have LH : Hid (hs.length ≤ n) := by show _ ≤ _; rw [hO.1.length_eq]; exact liv_len E n
    have LE : Hid ((nI hs).length = hs.length) := nI_len hs
    clear hN hO hb x0 x1 x2 H0
    rw [LE.out]
    rw [LE.out] at P2
    go_wp2
    go_loopw [19] (fun i w' => ∃ k : Nat, k ≤ hs.length ∧ i = .int .i64 (k : Int) ∧ HW V.heap.size g3 gw gc w' (pkX W E hs k ++ List.replicate (W.length - offs E hs k) 0) ((offs E hs k : Nat) : Int) n (pkC E hs (fun _ => cel0) k) n ∧ Piece wc.heap.size w2.heap.size w' (.slice ua hs.length uc) (nI hs) ∧ Below V.heap.size V w') (fun i _ => hs.length - (intOf i).toNat)
    case atStart => exact ⟨0, by omega, rfl, H2.out, P2.out, B2.out⟩
    case round =>
      clear H2 P2 B2
      obtain ⟨k, hk, rfl, hH, hP, hB⟩ := hrel
      have HQ : Hid (HW V.heap.size g3 gw gc wr (pkX W E hs k ++ List.replicate (W.length - offs E hs k) 0) ((offs E hs k : Nat) : Int) n (pkC E hs (fun _ => cel0) k) n) := hH
      have PK : Hid (Piece wc.heap.size w2.heap.size wr (.slice ua hs.length uc) (nI hs)) := hP
      have BK : Hid (Below V.heap.size V wr) := hB
      clear hH hP hB
      have lh := LH.out
      by_cases hlt : (k : Int) < (hs.length : Int)
      · have L : k < hs.length := by omega
        obtain ⟨s1, s2, s3, s4, s5, s6⟩ := SG.out
        have en := ok_ends HK.out HO.out L
        obtain ⟨zn, zv⟩ := ord_get HO.out L
        have ol := offs_le HK.out HO.out k L
        have oe := offs_end HK.out HO.out L
        have WL : Hid ((wds W (E (hn hs k))).length = (E (hn hs k)).l.toNat) := wds_length HK.out HO.out L
        have PP : Hid (paste (pkX W E hs k ++ List.replicate (W.length - offs E hs k) 0) (offs E hs k) (wds W (E (hn hs k))) (wds W (E (hn hs k))).length = pkX W E hs (k + 1) ++ List.replicate (W.length - offs E hs (k + 1)) 0) := pk_paste HK.out HO.out L
        have PL : Hid ((pkX W E hs k ++ List.replicate (W.length - offs E hs k) 0).length = W.length) := pk_len HK.out HO.out hk
        have PL2 : Hid ((pkX W E hs (k + 1) ++ List.replicate (W.length - offs E hs (k + 1)) 0).length = W.length) := pk_len HK.out HO.out (by omega)
        have OS : Hid (offs E hs (k + 1) = offs E hs k + (E (hn hs k)).l.toNat) := rfl
        have PC : Hid (pkC E hs (fun _ => cel0) (k + 1) = up (pkC E hs (fun _ => cel0) k) (hn hs k) ⟨(offs E hs k : Int), (E (hn hs k)).l, true⟩) := rfl
        obtain ⟨ub, uo, uoff, rfl, cu⟩ : ∃ ub uo, ∃ _ : True, ua = some ⟨ub, uo, none⟩ ∧ wr.cell? ⟨ub, uo + k, none⟩ = some (.int .i64 ((hn hs k : Nat) : Int)) := by
          obtain ⟨a, c, e, i⟩ := PK.out.ints
          simp at e
          obtain ⟨rfl, _, _⟩ := e
          obtain ⟨b, o, rfl, _, h⟩ := i.at (k := k) (by rw [LE.out]; exact L)
          rw [nI_get] at h
          exact ⟨b, o, trivial, rfl, h⟩
        obtain ⟨o, off, rfl, hoo, p0, p1, p2⟩ := (H3.out.keep (bTrans B1.out BK.out)).at zn
        obtain ⟨F, hF⟩ : ∃ F : Nat, (E (hn hs k)).f = (F : Int) := ⟨(E (hn hs k)).f.toNat, by omega⟩
        obtain ⟨Ln, hL⟩ : ∃ Ln : Nat, (E (hn hs k)).l = (Ln : Int) := ⟨(E (hn hs k)).l.toNat, by omega⟩
        have WD : Hid (wds W (E (hn hs k)) = (W.drop F).take Ln) := by show _ = _; unfold wds; rw [hF, hL]; simp
        change wr.cell? ⟨o, off + hn hs k * 3, none⟩ = some (.int .i64 (E (hn hs k)).f) at p0
        change wr.cell? ⟨o, off + hn hs k * 3 + 1, none⟩ = some (.int .i64 (E (hn hs k)).l) at p1
        change wr.cell? ⟨o, off + hn hs k * 3 + 2, none⟩ = some (.bool (E (hn hs k)).v) at p2
        change hn hs k < n at zn
        change (E (hn hs k)).v = true at zv
        rw [hF] at p0 ol en
        rw [hL] at p1 en PC
        rw [zv] at p2
        rw [hL, Int.toNat_natCast] at OS WL
        rw [WD.out] at PP WL
        generalize hn hs k = z at *
        generalize hT2 : offs E hs (k + 1) = T2 at *
        have HT2 : Hid (offs E hs (k + 1) = T2) := hT2
        clear hT2
        generalize offs E hs k = T1 at *
        obtain ⟨ws, hws⟩ : ∃ ws, ws = (W.drop F).take Ln := ⟨_, rfl⟩
        rw [← hws] at PP WL
        have HWS : Hid (ws = (W.drop F).take Ln) := hws
        obtain ⟨a1, c1, hs1, hc1, i1⟩ := ints_mid (F := F) (L := Ln) H1.out H1c.out (by omega)
        rw [← hws] at i1
        have I1 : Hid (Ints w a1 ws) := i1
        clear i1
        have XR := X1.out.keep BK.out
        have x0 := XR.c0
        have x1 := XR.c1
        have x2 := XR.c2
        have XRR : Hid (Box3 wr w.heap.size (.slice wa W.length wc_) (.int .i64 t) (.slice (some ⟨o, off, none⟩) n cc) 28) := XR
        have KB : Hid (∀ W' : World, Below wr.heap.size wr W' → (W'.cell? ⟨w.heap.size, 0, none⟩ = some (.slice wa W.length wc_) ∧ W'.cell? ⟨w.heap.size, 1, none⟩ = some (.int .i64 t) ∧ W'.cell? ⟨w.heap.size, 2, none⟩ = some (.slice (some ⟨o, off, none⟩) n cc)) ∧ W'.cell? ⟨o, off + z * 3, none⟩ = some (.int .i64 (F : Int)) ∧ W'.cell? ⟨o, off + z * 3 + 1, none⟩ = some (.int .i64 (Ln : Int)) ∧ W'.cell? ⟨o, off + z * 3 + 2, none⟩ = some (.bool true)) := fun W' hb => ⟨⟨(XRR.out.keep hb).c0, (XRR.out.keep hb).c1, (XRR.out.keep hb).c2⟩, (hb.cell (p := ⟨o, off + z * 3, none⟩) hoo).trans p0, (hb.cell (p := ⟨o, off + z * 3 + 1, none⟩) hoo).trans p1, (hb.cell (p := ⟨o, off + z * 3 + 2, none⟩) hoo).trans p2⟩
        have z1 : (z : Int) < (n : Int) := by omega
        have z0 : (0 : Int) ≤ (z : Int) := by omega
        have zt : ((z : Int)).toNat = z := by omega
        clear XR hws WD
        go_wp2_with fail
        clear x0 x1 x2 cu
        go_region_held3 (fun w' => (w'.cell? ⟨w.heap.size, 0, none⟩ = some (.slice wa W.length wc_) ∧ w'.cell? ⟨w.heap.size, 1, none⟩ = some (.int .i64 t) ∧ w'.cell? ⟨w.heap.size, 2, none⟩ = some (.slice (some ⟨o, off, none⟩) n cc)) ∧ w'.cell? ⟨o, off + z * 3, none⟩ = some (.int .i64 (F : Int)) ∧ w'.cell? ⟨o, off + z * 3 + 1, none⟩ = some (.int .i64 (Ln : Int)) ∧ w'.cell? ⟨o, off + z * 3 + 2, none⟩ = some (.bool true))
          ((refine KB.out _ ?_; (repeat first | exact BX.out | exact Below.refl _ _ | refine bAlloc ?_ _ | refine Below.drew ?_); done))
          ((go_at_call 97; refine (wordsOf_run (F := F) (L := Ln) (HH.out.keep (bTrans (bTrans B1.out BK.out) (by repeat first | exact Below.refl _ _ | refine Below.drew ?_))) true (by omega) (by omega) (fun _ _ _ _ e => by cases e; exact hs1)).mono ?_; rintro r wx ⟨rfl, hb⟩; have BX : Hid (Below wr.heap.size wr wx) := bTrans (by repeat first | exact Below.refl _ _ | refine Below.drew ?_) hb; clear hb))
        all_goals
          have H6 : Hid (HW V.heap.size g3 gw gc wx (pkX W E hs k ++ List.replicate (W.length - T1) 0) (T1 : Int) n (pkC E hs (fun _ => cel0) k) n) := HQ.out.keep BX.out
          have Q6 : Box3 wx g3 (.slice (some ⟨gw, 0, none⟩) W.length W.length) (.int .i64 (T1 : Int)) (.slice (some ⟨gc, 0, none⟩) n n) 28 := by
            have := H6.out.2.2.1
            rw [PL.out] at this
            exact this
          have CB : CBlk wx gc n (pkC E hs (fun _ => cel0) k) := by
            rcases H6.out.2.2.2.2 with h | h
            · omega
            · exact h
          obtain ⟨d0, d1, d2, e0, e1, e2⟩ := CB.cells zn
          have q0 := Q6.c0
          have q1 := Q6.c1
          have q2 := Q6.c2
          have gcl := CB.lt
          clear CB
          go_wp2_with fail
          clear q0 q1 q2 d0 d1 d2 e0 e1 e2
          have H7a := H6.out.cell zn ⟨(T1 : Int), (Ln : Int), true⟩
          simp only at H7a
          have W7 : Hid (Win gc (gc + 1) wx (((wx.setCell ⟨gc, z * 3, none⟩ (.int .i64 (T1 : Int))).setCell ⟨gc, z * 3 + 1, none⟩ (.int .i64 (Ln : Int))).setCell ⟨gc, z * 3 + 2, none⟩ (.bool true))) := set3_win _ _ _ _ _ _
          generalize hY : ((wx.setCell ⟨gc, z * 3, none⟩ (.int .i64 (T1 : Int))).setCell ⟨gc, z * 3 + 1, none⟩ (.int .i64 (Ln : Int))).setCell ⟨gc, z * 3 + 2, none⟩ (.bool true) = wy at *
          clear hY
          have H7 : Hid (HW V.heap.size g3 gw gc wy (pkX W E hs k ++ List.replicate (W.length - T1) 0) (T1 : Int) n (pkC E hs (fun _ => cel0) (k + 1)) n) := by rw [PC.out]; exact H7a
          clear H7a
          have B7 : Hid (Below V.heap.size V wy) := bTrans (bTrans BK.out BX.out) (Below.refl _ _) |>.trans (W7.out.below (by omega) (by have := BK.out.size; have := BX.out.size; omega))
          have Q7 : Hid (Box3 wy g3 (.slice (some ⟨gw, 0, none⟩) W.length W.length) (.int .i64 (T1 : Int)) (.slice (some ⟨gc, 0, none⟩) n n) 28) := by
            have := H7.out.2.2.1
            rw [PL.out] at this
            exact this
          have gs : ∀ W', (Instr.slice 25 (.slice (some ⟨gw, 0, none⟩) W.length W.length) (some (.int .i64 (T1 : Int))) none none).run Try.prog W' = .ok (.slice (some ⟨gw, T1, none⟩) (W.length - T1) (W.length - T1)) W' := fun W' => by
            rw [run_from (by omega) (Nat.le_refl _) W', if_neg (by omega)]
            by_cases h0 : T1 = 0 <;> simp [Addr.add, h0]
          have WS : ws.length = Ln := WL.out
          have mn : min ws.length (W.length - T1) = ws.length := by omega
          have CP : Hid (∀ W' : World, W'.heap = wy.heap → ∀ ty, (Builtin.copy_ #[25, 25] ty #[.slice (some ⟨gw, T1, none⟩) (W.length - T1) (W.length - T1), .slice a1 Ln c1]).run Try.prog W' = .ok (.int .i64 (Ln : Int)) (W'.setRow gw (vals (pkX W E hs (k + 1) ++ List.replicate (W.length - T2) 0)))) := fun W' hh ty => by
            have ow : OwnInts W' gw (pkX W E hs k ++ List.replicate (W.length - T1) 0) := by unfold OwnInts; rw [hh]; exact H7.out.2.2.2.1
            have iw : Ints W' a1 ws := by
              rcases I1.out.keep (bTrans B1.out B7.out) with h | ⟨b, oo, e, hb, hc⟩
              · exact .inl h
              · exact .inr ⟨b, oo, e, by rw [hh]; exact hb, fun j hj => by have := hc j hj; simp only [World.cell?, hh] at this ⊢; exact this⟩
            have := copy_paste (k := T1) (n := W.length - T1) ow iw (by rw [mn, PL.out]; omega) ty (W.length - T1) c1
            rw [mn, PP.out, WS] at this
            exact this
          have q0 := Q7.out.c0
          have q1 := Q7.out.c1
          have fz := Q7.out.free 1
          obtain ⟨X', hX'⟩ : ∃ X', X' = vals (pkX W E hs (k + 1) ++ List.replicate (W.length - T2) 0) := ⟨_, rfl⟩
          have OW9 : Hid (∀ W' : World, W'.heap = wy.heap → HW V.heap.size g3 gw gc (W'.setRow gw X') (pkX W E hs (k + 1) ++ List.replicate (W.length - T2) 0) (T1 : Int) n (pkC E hs (fun _ => cel0) (k + 1)) n) := fun W' hh => by
            have h7 := H7.out
            have own : OwnInts W' gw (pkX W E hs k ++ List.replicate (W.length - T1) 0) := by unfold OwnInts; rw [hh]; exact h7.2.2.2.1
            have own2 : OwnInts (W'.setRow gw X') gw (pkX W E hs (k + 1) ++ List.replicate (W.length - T2) 0) := by rw [hX']; exact own.setRow _
            have hq : HW V.heap.size g3 gw gc W' (pkX W E hs k ++ List.replicate (W.length - T1) 0) (T1 : Int) n (pkC E hs (fun _ => cel0) (k + 1)) n := ⟨h7.1, h7.2.1, by unfold Box3; rw [hh]; exact h7.2.2.1, own, h7.2.2.2.2.imp_right fun ⟨cur, tt, a, b⟩ => ⟨cur, tt, by rw [hh]; exact a, b⟩⟩
            exact hq.words (by rw [PL.out, PL2.out]) (setRow_win W' gw X') own2
          rw [← hX'] at CP
          have N3 : g3 ≠ gw := H7.out.1.2.2.2.1
          have HX9 : Hid (X' = vals (pkX W E hs (k + 1) ++ List.replicate (W.length - T2) 0)) := hX'
          clear hX'
          have S7 : Hid (∀ W' : World, W'.heap = wy.heap → Box3 (W'.setRow gw X') g3 (.slice (some ⟨gw, 0, none⟩) W.length W.length) (.int .i64 (T1 : Int)) (.slice (some ⟨gc, 0, none⟩) n n) 28) := fun W' hh => by
            have : Box3 W' g3 (.slice (some ⟨gw, 0, none⟩) W.length W.length) (.int .i64 (T1 : Int)) (.slice (some ⟨gc, 0, none⟩) n n) 28 := by unfold Box3; rw [hh]; exact Q7.out
            exact this.win (setRow_win W' gw X') (by omega)
          have sa0 := (S7.out wy rfl).c0
          have sa1 := (S7.out wy rfl).c1
          have sa2 := (S7.out wy rfl).free 1
          have sb0 := (S7.out wy.drew rfl).c0
          have sb1 := (S7.out wy.drew rfl).c1
          have sb2 := (S7.out wy.drew rfl).free 1
          have FIN : Hid (HW V.heap.size g3 gw gc ((wy.drew.setRow gw X').setCell ⟨g3, 1, none⟩ (.int .i64 ((T1 : Int) + (Ln : Int)))) (pkX W E hs (k + 1) ++ List.replicate (W.length - offs E hs (k + 1)) 0) ((offs E hs (k + 1) : Nat) : Int) n (pkC E hs (fun _ => cel0) (k + 1)) n) := by
            have := (OW9.out wy.drew rfl).top ((T1 : Int) + (Ln : Int))
            have e : ((T2 : Nat) : Int) = (T1 : Int) + (Ln : Int) := by have := OS.out; omega
            show HW _ _ _ _ _ _ _ _ _ _
            rw [HT2.out, e]
            exact this
          have gcw : gc < wc.heap.size := by omega
          have PKF : Hid (Piece wc.heap.size w2.heap.size ((wy.drew.setRow gw X').setCell ⟨g3, 1, none⟩ (.int .i64 ((T1 : Int) + (Ln : Int)))) (.slice (some ⟨ub, uo, none⟩) hs.length uc) (nI hs)) := by
            have a1 := (PK.out.keep BX.out).win W7.out (.inr (by omega))
            have a2 : Piece wc.heap.size w2.heap.size wy.drew (.slice (some ⟨ub, uo, none⟩) hs.length uc) (nI hs) := a1.keep ((Below.refl _ _).drew)
            exact (a2.win (setRow_win _ gw X') (.inr (by omega))).win (win_setCell _ _ _ _) (.inr (by omega))
          have BF : Hid (Below V.heap.size V ((wy.drew.setRow gw X').setCell ⟨g3, 1, none⟩ (.int .i64 ((T1 : Int) + (Ln : Int))))) := below_setCell ((Below.drew B7.out).trans ((setRow_win _ gw X').below (by omega) (by have := B7.out.size; exact this))) (by omega) _ _
          have ad : IntKind.i64.wrap ((T1 : Int) + (Ln : Int)) = (T1 : Int) + (Ln : Int) := by rw [IntKind.wrap_i64]; omega
          have tl : (T1 : Int) ≤ (W.length : Int) := by omega
          go_region_law (first | refine step_copyI (by rfl) (.tmp 45) (.tmp 46) 25 25 (by rfl) _ _ _ (by rfl) (by rfl) (CP.out wy.drew rfl _) ?_ | refine step_copyI (by rfl) (.tmp 45) (.tmp 46) 25 25 (by rfl) _ _ _ (by rfl) (by rfl) (CP.out wy rfl _) ?_)
          all_goals
            go_wp2
            go_roundw
            case rel => exact ⟨k + 1, by omega, by go_num, FIN.out, PKF.out, BF.out⟩
            case measure => simp [intOf]; omega
      · obtain rfl : k = hs.length := by omega
        have HF : Hid (HX V.heap.size wr.heap.size wr (.agg #[.slice (some ⟨gw, 0, none⟩) W.length W.length, .int .i64 ((offs E hs hs.length : Nat) : Int), .slice (some ⟨gc, 0, none⟩) n n]) (pkX W E hs hs.length ++ List.replicate (W.length - offs E hs hs.length) 0) ((offs E hs hs.length : Nat) : Int) n (pkC E hs (fun _ => cel0) hs.length)) := by
          have := HQ.out.hx (by rcases HQ.out.2.2.2.2 with h | h; exact .inr h; exact .inl h.lt)
          rw [pk_len HK.out HO.out (Nat.le_refl _)] at this
          exact this
        have Q3 : Hid (Box3 wr g3 (.slice (some ⟨gw, 0, none⟩) W.length W.length) (.int .i64 ((offs E hs hs.length : Nat) : Int)) (.slice (some ⟨gc, 0, none⟩) n n) 28) := by
          have := HQ.out.2.2.1
          rw [pk_len HK.out HO.out (Nat.le_refl _)] at this
          exact this
        have YR : Hid (Box3 wr (w.heap.size + 1) (.slice none 0 0) (.int .i64 0) (.slice none 0 0) 28) := Y1.out.keep BK.out
        have q0 := Q3.out.c0
        have q1 := Q3.out.c1
        have q2 := Q3.out.c2
        have r0 := YR.out.c0
        have r1 := YR.out.c1
        have r2 := YR.out.c2
        have f0 := YR.out.free 0
        have f1 := YR.out.free 1
        have f2 := YR.out.free 2
        generalize hT : ((offs E hs hs.length : Nat) : Int) = T at *
        go_wp2
        clear q0 q1 q2 r0 r1 r2 f0 f1 f2
        generalize hZ : ((wr.setCell ⟨w.heap.size + 1, 0, none⟩ (.slice (some ⟨gw, 0, none⟩) W.length W.length)).setCell ⟨w.heap.size + 1, 1, none⟩ (.int .i64 T)).setCell ⟨w.heap.size + 1, 2, none⟩ (.slice (some ⟨gc, 0, none⟩) n n) = wz
        have YZ : Box3 wz (w.heap.size + 1) (.slice (some ⟨gw, 0, none⟩) W.length W.length) (.int .i64 T) (.slice (some ⟨gc, 0, none⟩) n n) 28 := by rw [← hZ]; exact ((YR.out.set0 _).set1 _).set2 _
        have WZ : Win (w.heap.size + 1) (w.heap.size + 1 + 1) wr wz := by rw [← hZ]; exact ((win_setCell _ _ _ _).trans (win_setCell _ _ _ _)).trans (win_setCell _ _ _ _)
        have BZ : Below w.heap.size w wz := by rw [← hZ]; exact below_setCell (below_setCell (below_setCell (bTrans B1.out BK.out) (by omega) _ _) (by omega) _ _) (by omega) _ _
        have v0 := YZ.c0
        have v1 := YZ.c1
        have v2 := YZ.c2
        refine bodyPost_ret (v := .agg #[.slice (some ⟨gw, 0, none⟩) W.length W.length, .int .i64 T, .slice (some ⟨gc, 0, none⟩) n n]) (by simp [results, Try.results61, go_sem, v0, v1, v2]) rfl ?_
        have lv := LV.out
        exact ⟨_, rfl, hs, HO.out, by rw [hT]; exact (HF.out.win WZ (.inr (by omega))).mono (by omega) WZ.size, ⟨_, _, _, rfl⟩, BZ⟩
theorem packed_impl (hS : SortsBy) (hS0 : SortsNone) {w : World} {v : Value} {W : List Int} {t : Int} {n : Nat} {E : Nat → Cel} (h : HI w v W t n E) (hk : hOk W.length t n E) :
    Calls Try.prog 61 #[v] w fun e w' => ∃ (v' : Value) (hs : List Nat), e = .returned v' ∧ Ord E n hs ∧ HX w.heap.size w'.heap.size w' v' (pkX W E hs hs.length ++ List.replicate (W.length - offs E hs hs.length) 0) (offs E hs hs.length) n (pkC E hs (fun _ => cel0) hs.length) ∧ Below w.heap.size w w' :=
  (packed_impl2 hS hS0 h hk).mono fun _ _ ⟨v', hs, e, ho, hx, _, hb⟩ => ⟨v', hs, e, ho, hx, hb⟩
end Go.Proofs.Ytmmjidhpmbcoiaa
