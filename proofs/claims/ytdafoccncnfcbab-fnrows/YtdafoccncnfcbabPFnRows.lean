/-
  Proved: whatever bytes it is given, the law FnRows returns true (the rows of a drawn array have all of its numbers, in order, and each number is at its index), and the bytes read as before. No condition.
-/
import Derived.Test.YtdafoccncnfcbabRows
import Derived.WalkKit
import Derived.ProofKit
import Derived.OpenShut
import Derived.ShutString
import Derived.ChangeOld
import Derived.Below
import Derived.Test.YtdafoccncnfcbabRowsF
import Derived.Test.YtdafoccncnfcbabLaw3
import Derived.Test.YtdafoccncnfcbabImplArr4
import Derived.Test.YtdafoccncnfcbabImplArr5
import Derived.Test.YtdafoccncnfcbabImplRows3
import Derived.Test.YtdafoccncnfcbabDrawFill3
namespace Go.Proofs.Ytdafoccncnfcbab.fnRows
open Go.ChangeShapes Go.WideShapes Go.ChangeAt Go.RowKit
open Go.ChangeMaps (open_string shut_string)
set_option linter.unusedVariables false
set_option linter.unusedSimpArgs false
set_option linter.unusedVariables false

theorem own : ownKnob Try.prog.godebug = none := by kernel_rfl
theorem laidOut : laidOutB Try.prog = true := by kernel_rfl

/-! ### STEP 1: THE WALK: the Go text returns true, AND WRITES NOTHING THAT WAS THERE: 'Below w.heap.size w w'' (Derived/Below.lean: '.refl', '.alloc', '.drew', '.setCell' at a new block, '.trans'). Open each 'IsRow' by 'rcases' AHEAD of 'go_enter'; part every test ahead of the walk. -/
set_option maxRecDepth 20000 in
set_option maxHeartbeats 8000000 in
theorem walk (a0 : Option Addr) (len0 cap0 : Nat) (z0 : List Int) (w : World) (w0 : IsRow .u8 w a0 len0 cap0 z0) :
    Calls Try.prog 6 #[.slice a0 len0 cap0] w fun e w' => e = .returned (.bool true) ∧ Below w.heap.size w w' := by
  have HS : Hid (Src w.heap.size w a0 len0) := src_of_row w0
  clear w0
  by_cases hbig : (1048576 : Int) < (len0 : Int)
  · go_enter Try.func6, Try.ntmps6
    go_wp2_with (go_at_call 8; refine (big_laws _ _ _ _).mono ?_; rintro e w' ⟨rfl, hw⟩; subst w')
    go_ret
    exact ⟨rfl, Below.refl _ _⟩
  have hb20 : len0 ≤ 1048576 := by omega
  go_enter Try.func6, Try.ntmps6
  go_wp2_with (go_at_call 8; refine (big_laws _ _ _ _).mono ?_; rintro e w' ⟨rfl, hw⟩; subst w')
  refine (drawRows_spec HS.out hb20).mono ?_
  rintro r w1 ⟨v1, s, d, rfl, hA, hls, hld, hb⟩
  have A1 : Hid (ArrI w1 v1 s d) := hA.arrI
  obtain ⟨xa, xc, ya, yc, rfl, _, _, _, _⟩ := hA.arrI
  have HT1 : Hid (Below w.heap.size w w1) := hb
  clear hb hA
  have LS : Hid (s.length ≤ 1048576) := by show _ ≤ _; omega
  have LD : Hid (d.length ≤ 1048576) := by show _ ≤ _; omega
  obtain ⟨F, hF⟩ : ∃ x, x = rowsF s d := ⟨_, rfl⟩
  have CI : Hid (∀ (W : World) (u : Value), ArrI W u s d → Calls Try.prog 28 #[u] W fun e w' => ∃ v, e = .returned v ∧ Arrs W.heap.size w'.heap.size w' v F ∧ Below W.heap.size W w') := by
    intro W u h
    rw [hF]
    exact rows_impl h LS.out LD.out
  have CS : Hid (∀ (W : World) (u : Value), ArrI W u s d → Calls Try.prog 29 #[u] W fun e w' => ∃ v, e = .returned v ∧ Arrs W.heap.size w'.heap.size w' v F ∧ Below W.heap.size W w') := by
    intro W u h
    rw [hF]
    exact rows_spec h LS.out LD.out
  have HF : Hid (F = rowsF s d) := hF
  clear hF
  go_wp2_with fail
  refine (CI.out _ _ (A1.out.keep (bAlloc (Below.refl _ _) _))).mono ?_
  rintro r w2 ⟨v2, rfl, hR, hb⟩
  have R2 : Hid (ArrsI w2 v2 F) := hR.arrsI
  obtain ⟨ra, n, rc, rfl, hn, _⟩ := hR
  have HT2 : Hid (Below w.heap.size w w2) := bTrans HT1.out (bTrans (bAlloc (Below.refl _ _) _) hb)
  have X2 : Hid (Box w2 w1.heap.size (.slice xa s.length xc) (.slice ya d.length yc) 43) := (box_new w1 _ _ _).keep hb
  have A2 : Hid (ArrI w2 (.agg #[.slice xa s.length xc, .slice ya d.length yc]) s d) := A1.out.keep (bTrans (bAlloc (Below.refl _ _) _) hb)
  clear hb A1
  have x0 := X2.out.c0
  have x1 := X2.out.c1
  go_wp2_with fail
  refine (CS.out _ _ A2.out).mono ?_
  rintro r w3 ⟨v3, rfl, hR, hb⟩
  obtain ⟨ra', n', rc', rfl, hn', _⟩ := hR
  obtain rfl : n' = n := by omega
  have HT3 : Hid (Below w.heap.size w w3) := bTrans HT2.out hb
  have X3 : Hid (Box w3 w1.heap.size (.slice xa s.length xc) (.slice ya d.length yc) 43) := X2.out.keep hb
  have A3 : Hid (ArrI w3 (.agg #[.slice xa s.length xc, .slice ya d.length yc]) s d) := A2.out.keep hb
  have R3 : Hid (ArrsI w3 (.slice ra n' rc) F) := R2.out.keep hb
  clear hb x0 x1 X2 A2 R2 CI CS hn'
  have x0 := X3.out.c0
  have x1 := X3.out.c1
  have hnn : ((n' : Int) != (n' : Int)) = false := by simp
  go_wp2_with fail
  refine (arrOk_spec A3.out LD.out).mono ?_
  rintro r w4 ⟨rfl, hb⟩
  have HT4 : Hid (Below w.heap.size w w4) := bTrans HT3.out hb
  have X4 : Hid (Box w4 w1.heap.size (.slice xa s.length xc) (.slice ya d.length yc) 43) := X3.out.keep hb
  have A4 : Hid (ArrI w4 (.agg #[.slice xa s.length xc, .slice ya d.length yc]) s d) := A3.out.keep hb
  have R4 : Hid (ArrsI w4 (.slice ra n' rc) F) := R3.out.keep hb
  clear hb x0 x1 X3 A3 R3 HT1 HT2 HT3
  have x0 := X4.out.c0
  have x1 := X4.out.c1
  by_cases ho : arrOk s d = true
  · cases s with
    | nil =>
      have HO : Hid (arrOk [] d = true) := ho
      obtain rfl : n' = 0 := by
        have h0 : F.length = 0 := by rw [HF.out, rowsF_length, if_neg (by simp)]
        omega
      clear ho hn
      rw [HO.out]
      go_wp2_with fail
      refine (arrOk_impl A4.out LD.out).mono ?_
      rintro r w5 ⟨rfl, hb⟩
      have HT5 : Hid (Below w.heap.size w w5) := bTrans HT4.out hb
      clear hb
      rw [HO.out]
      go_wp2
      go_ret
      exact ⟨rfl, HT5.out⟩
    | cons n0 t =>
      have HO : Hid (arrOk (n0 :: t) d = true) := ho
      obtain ⟨cnt, N, rfl, hc3, hN3, hmul, hL, hrow⟩ := rows_facts ho
      obtain rfl : n' = cnt := by rw [← HF.out] at hL; omega
      have HROW : Hid (∀ k, k < n' → F.getD (2 * k) [] = t ∧ ∃ D, F.getD (2 * k + 1) [] = D ∧ D.length = N ∧ arrOk t D = true ∧ ∀ j, j < N → D.getD j 0 = d.getD (k * N + j) 0) := by rw [HF.out]; exact hrow
      have HMUL : Hid (n' * N = d.length) := hmul
      have hne : ((t.length : Int) + 1 == 0) = false := by simp; omega
      clear ho hn hrow hL hmul
      rw [HO.out]
      go_wp2
      go_loopw [5, 6] (fun q i w' => ∃ k M : Nat, k ≤ n' ∧ M = k * N ∧ i = .int .i64 (k : Int) ∧ q = .int .i64 (M : Int) ∧ Below w4.heap.size w4 w') (fun _ i _ => n' - (intOf i).toNat)
      case atStart => exact ⟨0, 0, by omega, by simp, rfl, rfl, Below.refl _ _⟩
      case round =>
        obtain ⟨k, M, hk, hM, rfl, rfl, hB⟩ := hrel
        have HM : Hid (M = k * N) := hM
        clear hM
        have HB : Hid (Below w4.heap.size w4 wr) := hB
        clear hB x0 x1
        have X : Hid (Box wr w1.heap.size (.slice xa (t.length + 1) xc) (.slice ya d.length yc) 43) := X4.out.keep HB.out
        have x0 := X.out.c0
        have x1 := X.out.c1
        by_cases hlt : (k : Int) < (n' : Int)
        · obtain ⟨f0, D, f1, hDN, hDo, hDj⟩ := HROW.out k (by omega)
          obtain ⟨o, off, x, y, rfl, hob, p0, p1, i0, i1⟩ := (R4.out.keep HB.out).at (k := k) (by omega)
          rw [f0] at i0
          rw [f1] at i1
          obtain ⟨ax, cx, rfl, gix, ix⟩ := i0
          obtain ⟨ay, cy, rfl, giy, iy⟩ := i1
          rw [hDN] at p1
          have AR : Hid (ArrI wr (.agg #[.slice ax t.length cx, .slice ay N cy]) t D) := ⟨_, _, _, _, by rw [hDN], ix, iy, gix, giy⟩
          have HDO : Hid (arrOk t D = true) := hDo
          have HDJ : Hid (∀ j, j < N → D.getD j 0 = d.getD (k * N + j) 0) := hDj
          have HDN : Hid (D.length = N) := hDN
          have HIY : Hid (Ints wr ay D) := iy
          clear f0 f1 hDN hDo hDj ix iy gix giy
          have hnt : ((t.length : Int) != (t.length : Int)) = false := by simp
          have hwt : IntKind.i64.wrap (t.length : Int) = (t.length : Int) := wrapI (by omega) (by have q : t.length + 1 ≤ 4 := hls; omega)
          have LDD : Hid (D.length ≤ 1048576) := by have := HDN.out; show _ ≤ _; omega
          go_wp2_with fail
          go_region_held3 (fun w' => w'.cell? ⟨w1.heap.size, 0, none⟩ = some (.slice xa (t.length + 1) xc) ∧ w'.cell? ⟨o, off + k * 2, none⟩ = some (.slice ax t.length cx) ∧ w'.cell? ⟨o, off + k * 2 + 1, none⟩ = some (.slice ay N cy))
            (first | exact ⟨y0, z0, z1⟩ | exact ⟨x0, p0, p1⟩)
            (first
              | (go_at_call 32; refine (arrOk_impl (AR.out.keep ((Below.refl wr.heap.size wr).drew)) LDD.out).mono ?_; rintro r w5 ⟨rfl, hb⟩; have HB5 : Hid (Below wr.heap.size wr w5) := bTrans ((Below.refl wr.heap.size wr).drew) hb; have y0 := (X.out.keep HB5.out).c0; have y1 := (X.out.keep HB5.out).c1; have z0 := (HB5.out.cell (p := ⟨o, off + k * 2, none⟩) hob).trans p0; have z1 := (HB5.out.cell (p := ⟨o, off + k * 2 + 1, none⟩) hob).trans p1; rw [HDO.out]; clear hb))
          have HT5 : Hid (Below w4.heap.size w4 w5) := bTrans HB.out HB5.out
          have HBD : Hid (M + N ≤ d.length) := by
            have q : (k + 1) * N ≤ n' * N := Nat.mul_le_mul_right N (by omega)
            rw [HMUL.out, Nat.add_mul, Nat.one_mul, ← HM.out] at q
            exact q
          have HK2 : Hid (M + N = (k + 1) * N) := by show _ = _; rw [HM.out, Nat.add_mul, Nat.one_mul]
          have HDJ2 : Hid (∀ j, j < N → D.getD j 0 = d.getD (M + j) 0) := by rw [HM.out]; exact HDJ.out
          have Y5 : Hid (Ints w5 ay D) := HIY.out.keep HB5.out
          have Q0 : Hid (w5.cell? ⟨o, off + k * 2, none⟩ = some (.slice ax t.length cx)) := z0
          have Q1 : Hid (w5.cell? ⟨o, off + k * 2 + 1, none⟩ = some (.slice ay N cy)) := z1
          have HOB : Hid (o < w5.heap.size) := by have := HB5.out.size; show _ < _; omega
          clear HDJ HIY AR X HB HB5 x0 x1 p0 p1 y0 y1 z0 z1 hob
          go_wp2
          go_loopw [5, 7] (fun q j w' => ∃ m P : Nat, m ≤ N ∧ P = M + m ∧ j = .int .i64 (m : Int) ∧ q = .int .i64 (P : Int) ∧ Below w5.heap.size w5 w') (fun _ j _ => N - (intOf j).toNat)
          case atStart => exact ⟨0, M, by omega, by simp, rfl, rfl, Below.refl _ _⟩
          case round =>
            obtain ⟨m, P, hm, hP, rfl, rfl, hB⟩ := hrel
            have HP : Hid (P = M + m) := hP
            have HC : Hid (Below w5.heap.size w5 wr) := hB
            have HC4 : Hid (Below w4.heap.size w4 wr) := bTrans HT5.out hB
            have hP3 : (P : Int) ≤ 301 := by have := HBD.out; omega
            clear hB hP
            have X : Hid (Box wr w1.heap.size (.slice xa (t.length + 1) xc) (.slice ya d.length yc) 43) := X4.out.keep HC4.out
            have p1 : wr.cell? ⟨o, off + k * 2 + 1, none⟩ = some (.slice ay N cy) := (HC.out.cell (p := ⟨o, off + k * 2 + 1, none⟩) HOB.out).trans Q1.out
            by_cases hlm : (m : Int) < (N : Int)
            · have hPd : P < d.length := by have := HBD.out; have := HP.out; omega
              have hPi : (P : Int) < (d.length : Int) := by omega
              obtain ⟨v1', c1', v2', c2', ev, is, id, _, _⟩ := A4.out
              cases ev
              obtain ⟨b2, o2, rfl, hb2, e2⟩ := Y5.out.at (k := m) (by have := HDN.out; omega)
              obtain ⟨b3, o3, rfl, hb3, e3⟩ := id.at (k := P) hPd
              rw [HDJ2.out m (by omega), ← HP.out] at e2
              obtain ⟨nok, nval⟩ := numAt_index HO.out hPd
              obtain ⟨y, hy⟩ : ∃ y, y = d.getD P 0 := ⟨_, rfl⟩
              rw [← hy] at e2 e3 nval
              have hyy : (y != y) = false := by simp
              have IX : Hid (∀ W, Below w4.heap.size w4 W → Calls Try.prog 17 #[.slice xa (t.length + 1) xc, .int .i64 (P : Int)] W fun e w' => ∃ v, e = .returned v ∧ NewInts W.heap.size w' v (indexV ((n' : Int) :: t) (P : Int)) ∧ Below W.heap.size W w') := fun W h => index_impl (P : Int) xc (is.keep h)
              have NA : Hid (∀ W u, Below w4.heap.size w4 W → IntsI W u (indexV ((n' : Int) :: t) (P : Int)) → Calls Try.prog 33 #[.agg #[.slice xa (t.length + 1) xc, .slice (some ⟨b3, o3, none⟩) d.length yc], u] W fun e w' => e = .returned (.tuple #[.int .i64 y, .bool true]) ∧ Below W.heap.size W w') := fun W u h hu => by
                have q := numAt_impl (A4.out.keep h) hu LS.out LD.out (Nat.le_trans (indexV_len _ _) (by decide))
                rw [nok, nval] at q
                exact q
              have E2 : Hid (w5.cell? ⟨b2, o2 + m, none⟩ = some (.int .i64 y) ∧ b2 < w5.heap.size) := ⟨e2, hb2⟩
              have E3 : Hid (w4.cell? ⟨b3, o3 + P, none⟩ = some (.int .i64 y) ∧ b3 < w4.heap.size) := ⟨e3, hb3⟩
              clear is id nok nval hy e2 e3 hb2 hb3
              have x0 := X.out.c0
              have x1 := X.out.c1
              go_wp2_with fail
              go_region_held3 (fun w' => w'.cell? ⟨w1.heap.size, 0, none⟩ = some (.slice xa (t.length + 1) xc) ∧ w'.cell? ⟨w1.heap.size, 1, none⟩ = some (.slice (some ⟨b3, o3, none⟩) d.length yc))
                (first | exact ⟨z0, z1⟩ | exact ⟨y0, y1⟩ | exact ⟨x0, x1⟩)
                (first
                  | (go_at_call 17; refine (IX.out _ (bTrans HC4.out ((Below.refl wr.heap.size wr).drew))).mono ?_; rintro r w6 ⟨v6, rfl, hv, hb⟩; have HI6 : Hid (IntsI w6 v6 (indexV ((n' : Int) :: t) (P : Int))) := hv.piece.intsI; have HB6 : Hid (Below wr.heap.size wr w6) := bTrans ((Below.refl wr.heap.size wr).drew) hb; have y0 := (X.out.keep HB6.out).c0; have y1 := (X.out.keep HB6.out).c1; clear hb hv)
                  | (go_at_call 33; refine (NA.out _ _ (bTrans HC4.out HB6.out) HI6.out).mono ?_; rintro r w7 ⟨rfl, hb⟩; have HB7 : Hid (Below wr.heap.size wr w7) := bTrans HB6.out hb; have z0 := (X.out.keep HB7.out).c0; have z1 := (X.out.keep HB7.out).c1; clear hb))
              have C7 : Hid (Below w5.heap.size w5 w7) := bTrans HC.out HB7.out
              have g1 : w7.cell? ⟨o, off + k * 2 + 1, none⟩ = some (.slice (some ⟨b2, o2, none⟩) N cy) := (C7.out.cell (p := ⟨o, off + k * 2 + 1, none⟩) HOB.out).trans Q1.out
              have g2 : w7.cell? ⟨b2, o2 + m, none⟩ = some (.int .i64 y) := (C7.out.cell (p := ⟨b2, o2 + m, none⟩) E2.out.2).trans E2.out.1
              have g3 : w7.cell? ⟨b3, o3 + P, none⟩ = some (.int .i64 y) := ((bTrans HT5.out C7.out).cell (p := ⟨b3, o3 + P, none⟩) E3.out.2).trans E3.out.1
              clear x0 x1 y0 y1 p1
              go_wp2
              go_roundw
              case rel => exact ⟨m + 1, P + 1, by omega, by have := HP.out; omega, by go_num, by go_num, C7.out⟩
              case measure => simp [intOf]; omega
            · have hPN : Hid (P = (k + 1) * N) := by show _ = _; rw [← HK2.out, HP.out]; omega
              go_wp2
              go_roundw
              case rel => exact ⟨k + 1, P, by omega, hPN.out, by go_num, rfl, HC4.out⟩
              case measure => simp [intOf]; omega
        · obtain ⟨v1', c1', v2', c2', ev, is, id, _, _⟩ := A4.out
          cases ev
          obtain ⟨b1, o1, rfl, hb1, e1⟩ := is.at (k := 0) (by simp)
          rw [Nat.add_zero] at e1
          have e1' : wr.cell? ⟨b1, o1, none⟩ = some (.int .i64 (n' : Int)) := (HB.out.cell (p := ⟨b1, o1, none⟩) hb1).trans e1
          obtain rfl : k = n' := by omega
          have hMd : M = d.length := by rw [HM.out, HMUL.out]
          have hmm : ((M : Int) == (d.length : Int)) = true := by rw [hMd]; simp
          have hkk : ((k : Int) == (k : Int)) = true := by simp
          have HTE : Hid (Below w.heap.size w wr) := bTrans HT4.out HB.out
          clear is id e1 hMd
          go_wp2
          go_ret
          exact ⟨rfl, HTE.out⟩
  · have HO : Hid (arrOk s d = false) := by show _ = _; simpa using ho
    obtain rfl : n' = 0 := by
      have h0 : F.length = 0 := by rw [HF.out, rowsF_length, if_neg (by rintro ⟨h, _⟩; exact ho h)]
      omega
    clear ho hn
    rw [HO.out]
    go_wp2_with fail
    refine (arrSame_impl A4.out A4.out LS.out LS.out LD.out LD.out).mono ?_
    rintro r w5 ⟨rfl, hb⟩
    have HT5 : Hid (Below w.heap.size w w5) := bTrans HT4.out hb
    clear hb
    rw [HO.out, Bool.false_and]
    go_wp2
    go_ret
    exact ⟨rfl, HT5.out⟩

/-! ### THE ROW's STEP: WRITTEN OUT: LEAVE IT -/
set_option maxRecDepth 100000 in
theorem lifted (os : Os) (started : os.Started) (H : Type) (enc : TypeId × Value → H) :
    ReturnsInHanded {} Try.checked os 6 .any (Rows.fnRowsSpec.pre6 enc Try.prog Try.f6 Rows.fnRowsRow.domain false) (Rows.fnRowsSpec.post enc Try.prog Try.f6 false true false false) := by
  refine returnsInHanded_of_change (C := Try.checked) own started (by kernel_rfl) Try.func6
    (ChangeSpec.witness6 (enc := enc) (C := Try.checked) false ⟨#[], #[.slice none 0 0], []⟩ 8 (by kernel_rfl) (by kernel_rfl) (by kernel_rfl) (by kernel_rfl)) ?_
  intro W base args ds gs before hval0 hW hcnd _
  have hval : ∀ (j : Nat) t v, Try.f6.params[j]? = some t → args[j]? = some v → Value.okWide Try.prog W .any base t v := hval0
  have hW' := hW
  obtain ⟨p, q, hA0, hV, rfl, hfz, hnd⟩ := hW
  have hA : DataW.TrodAll enc Try.prog W 0 (fun _ => true) true Try.f6.params.toList args.toList ds p := hA0
  rw [Try.params6] at hA hval
  obtain ⟨v0, vs0, d0, ds0, p0, q0, hargs, rfl, rfl, h0, r0⟩ := trodAll_cons hA
  obtain ⟨rfl, rfl, rfl⟩ := trodAll_nil r0
  obtain rfl : args = #[v0] := by cases args; simp_all
  obtain ⟨rfl, rfl⟩ := trodVars_none hV
  obtain ⟨a0, len0, cap0, rfl⟩ := okWide_slice Try.underlying22 (hval 0 22 v0 rfl rfl)
  have k0 := h0
  have lt0 : ∀ x ∈ p0, x.block < W.heap.size := by obtain ⟨m, hm⟩ := k0; exact DataW.trod_lt m _ _ _ hm
  obtain ⟨z0, w0⟩ : ∃ zs, IsRow .u8 W a0 len0 cap0 zs := by
    obtain ⟨fuel, hf⟩ := h0
    rcases open_ints Try.underlying22 Try.underlying5 (by kernel_rfl) hf with ⟨hcs, _⟩ | ⟨x, l, c, zs, hcs, _, hl, hm, hz, _, hcell, hwz⟩
    · simp [Value.cells] at hcs
      obtain ⟨rfl, rfl, rfl⟩ := hcs
      exact ⟨[], .inl ⟨rfl, rfl, rfl, rfl⟩⟩
    · simp [Value.cells] at hcs
      obtain ⟨rfl, rfl, rfl⟩ := hcs
      exact ⟨zs, .inr ⟨_, rfl, hl, hm, by simpa using hz, hcell, hwz⟩⟩
  clear hA0 hval0
  refine (walk a0 len0 cap0 z0 W w0).mono fun e W' ⟨he, bel⟩ => ?_
  subst he
  exact ⟨_, rfl, _, _, _, [], _, [], hW', trodAll_mk1 (shut_bool Try.underlying4 _), (trodAll_cons_mk (Below.trod laidOut (by kernel_rfl) (of_decide_eq_true (by kernel_rfl)) k0 bel lt0) trodAll_mk0), rfl, bel.frame _, fun h => by cases h⟩

theorem over : Rows.fnRowsRow.holds Try.pinned (OpenSpec.ofChange Rows.fnRowsSpec) :=
  OpenClaim.holds_of_wide 6 Try.f6 rfl rfl rfl rfl rfl rfl rfl ⟨rfl, rfl, rfl, rfl, rfl⟩ rfl rfl rfl rfl rfl (by kernel_rfl) Try.func6 (by kernel_rfl)
    (of_decide_eq_true (by kernel_rfl)) (by unfold Func.isWrapper; first | (rw [if_pos (by decide +kernel)]; kernel_rfl) | (rw [if_neg (by decide +kernel)]; exact ⟨rfl, rfl⟩))
    (fun os started H enc _ => lifted os started H enc)

/-- ████ THE STATEMENT ████ -/
theorem proved : Rows.FnRowsSaid := over
end Go.Proofs.Ytdafoccncnfcbab.fnRows
namespace Go.Proofs.Ytdafoccncnfcbab
theorem fnRows_holds : Rows.FnRowsSaid := fnRows.proved
#print axioms fnRows_holds
end Go.Proofs.Ytdafoccncnfcbab
