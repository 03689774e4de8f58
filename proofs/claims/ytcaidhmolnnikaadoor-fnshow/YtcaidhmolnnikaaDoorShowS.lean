/-
  Walks: the specification's l16Line, l16Parts, Show.
-/
import Derived.Test.YtcaidhmolnnikaaDoorShowM
namespace Go.Proofs.YtcaidhmolnnikaaDoor
open Go.RowKit
set_option linter.unusedVariables false
set_option linter.unusedSimpArgs false
/-- j blanks ahead of a text. -/
def repS (j : Nat) (s : ByteArray) : ByteArray := ⟨(List.replicate j (32 : UInt8)).toArray⟩ ++ s
theorem repS_zero (s : ByteArray) : repS 0 s = s := by
  apply ByteArray.ext
  simp [repS, ByteArray.data_append]
theorem repS_succ (j : Nat) (s : ByteArray) : (⟨#[32]⟩ : ByteArray) ++ repS j s = repS (j + 1) s := by
  apply ByteArray.ext
  apply Array.ext'
  simp [repS, ByteArray.data_append, List.replicate_succ]
theorem repS_size (j : Nat) (s : ByteArray) : (repS j s).size = j + s.size := by
  unfold repS
  rw [str_len, rep_size]
set_option maxRecDepth 20000 in
set_option maxHeartbeats 4000000 in
/-- l16Line of right numbers. -/
theorem line_spec {l : List Int} {b : Option Addr} {w : World} (e : Nat) (h : Ints w b l) (hl : l.length ≤ 300) (hall : l.all ok = true) (m : Nat) (hm : m ≤ 22) :
    Calls Tryd.prog 63 #[.slice b l.length e, .int .i64 (m : Int)] w fun r w' => r = .returned (.string (lineV m l)) ∧ Below w.heap.size w w' := by
  have HJ : Hid (Ints w b l) := h
  have HA : Hid (l.all ok = true) := hall
  obtain ⟨F, hF⟩ : ∃ F : Nat → ByteArray, F = fun i => padB m (digB (l.getD i 0)) := ⟨_, rfl⟩
  have FE : Hid (∀ i, F i = repS (m - (digB (l.getD i 0)).size) (digB (l.getD i 0))) := fun i => by rw [hF]; rfl
  have FS : Hid (∀ k, k ≤ l.length → (cat ⟨#[32]⟩ F k).size ≤ 13800) := fun k hk => by
    have := cat_le (sep := ⟨#[32]⟩) (f := F) (M := 44) (by decide) (k := k) (fun i hi => by rw [hF]; exact pad_le hm (ok_at HA.out (by omega)))
    have : k * (44 + 2) ≤ 300 * 46 := Nat.mul_le_mul_right _ (by omega)
    omega
  have EV : Hid (lineV m l = cat ⟨#[32]⟩ F l.length) := by show _ = _; rw [hF]; rfl
  rw [EV.out]
  clear h hall hF EV
  go_enter Tryd.func63, Tryd.ntmps63
  go_wp2
  go_loopw [5, 6] (fun s i w' => ∃ k : Nat, k ≤ l.length ∧ i = .int .i64 (k : Int) ∧ s = .string (cat ⟨#[32]⟩ F k) ∧ Below w.heap.size w w') (fun _ i _ => l.length - (intOf i).toNat)
  case atStart => exact ⟨0, by omega, rfl, rfl, Below.refl _ _⟩
  case round =>
    obtain ⟨k, hk, rfl, rfl, hb⟩ := hrel
    have BK : Hid (Below w.heap.size w wr) := hb
    clear hb
    by_cases hlt : (k : Int) < (l.length : Int)
    · have L : k < l.length := by omega
      obtain ⟨b1, o1, rfl, _, c1⟩ := (HJ.out.keep BK.out).at L
      have okx := ok_at HA.out L
      have CD : Hid (Calls Tryd.prog 61 #[.int .i64 (l.getD k 0)] wr fun e w' => e = .returned (.string (digB (l.getD k 0))) ∧ Below wr.heap.size wr w') := l8Digits_spec okx wr
      have FK : Hid (F k = repS (m - (digB (l.getD k 0)).size) (digB (l.getD k 0))) := FE.out k
      have sz := digB_size okx
      have wz := FS.out k hk
      generalize l.getD k 0 = x at *
      generalize digB x = s0 at *
      clear okx
      go_wp2_with fail
      refine CD.out.mono ?_
      rintro r w2 ⟨rfl, hb⟩
      have B2 : Hid (Below w.heap.size w w2) := bTrans BK.out hb
      clear hb CD c1
      go_wp2
      go_loopw [7] (fun v w' => ∃ j : Nat, j ≤ m - s0.size ∧ v = .string (repS j s0) ∧ w' = w2) (fun v _ => match v with | .string t => m - t.size | _ => 0)
      case atStart => exact ⟨0, by omega, by rw [repS_zero], rfl⟩
      case round =>
        obtain ⟨j, hj, rfl, rfl⟩ := hrel
        have js := repS_size j s0
        have JN : Hid ((⟨#[32]⟩ : ByteArray) ++ repS j s0 = repS (j + 1) s0) := repS_succ j s0
        have e1 : ByteArray.size ⟨#[32]⟩ = 1 := rfl
        by_cases hm2 : ((repS j s0).size : Int) < (m : Int)
        · have JL : Hid (j + 1 ≤ m - s0.size) := by show _ ≤ _; omega
          have JM : Hid (m - (repS (j + 1) s0).size < m - (repS j s0).size) := by show _ < _; rw [repS_size, repS_size]; omega
          generalize repS j s0 = t at *
          have z1 : ByteArray.size ⟨#[32]⟩ + t.size ≤ 9223372036854775807 := by omega
          clear js e1
          go_wp2
          go_roundw
          case rel => exact ⟨j + 1, JL.out, by rw [JN.out], by trivial⟩
          case measure => rw [JN.out]; exact JM.out
        · have hj2 : repS j s0 = F k := by rw [FK.out, show j = m - s0.size by omega]
          rw [hj2] at js hm2 ⊢
          have EF : Hid ((⟨#[]⟩ : ByteArray) ++ F 0 = cat ⟨#[32]⟩ F 1) := cat_first _ F
          have EN : Hid (k ≠ 0 → cat ⟨#[32]⟩ F k ++ ⟨#[32]⟩ ++ F k = cat ⟨#[32]⟩ F (k + 1)) := cat_next _ F
          by_cases k0 : k = 0
          · subst k0
            rw [cat_zero]
            have kk : ¬ ((0 : Nat) : Int) > 0 := by omega
            generalize F 0 = t at *
            have z0 : (⟨#[]⟩ : ByteArray).size + t.size ≤ 9223372036854775807 := by have : (⟨#[]⟩ : ByteArray).size = 0 := rfl; omega
            clear js e1 JN hj2 wz EN
            go_wp2
            go_roundw
            case rel => exact ⟨1, by omega, by go_num, by rw [EF.out], B2.out⟩
            case measure => simp [intOf]; omega
          · have kk : (k : Int) > 0 := by omega
            have EX : Hid (cat ⟨#[32]⟩ F k ++ ⟨#[32]⟩ ++ F k = cat ⟨#[32]⟩ F (k + 1)) := EN.out k0
            generalize cat ⟨#[32]⟩ F k = c at *
            generalize F k = t at *
            have z1 : c.size + ByteArray.size ⟨#[32]⟩ ≤ 9223372036854775807 := by omega
            have z2 : (c ++ ⟨#[32]⟩).size + t.size ≤ 9223372036854775807 := by rw [str_len]; omega
            clear js e1 JN hj2 wz EN EF k0
            go_wp2
            go_roundw
            case rel => exact ⟨k + 1, by omega, by go_num, by rw [EX.out], B2.out⟩
            case measure => simp [intOf]; omega
    · obtain rfl : k = l.length := by omega
      go_wp2
      go_ret
      exact ⟨rfl, BK.out⟩
-- PARTS
set_option maxRecDepth 20000 in
set_option maxHeartbeats 8000000 in
/-- l16Parts of a right array of rank 2. -/
theorem parts2_spec {s d : List Int} {v : Value} {w : World} (h : ArrI w v s d) (ho : arrOk s d = true) (hr : s.length = 2) (m : Nat) (hm : m ≤ 22) :
    Calls Tryd.prog 30 #[v, .int .i64 (m : Int)] w fun r w' => r = .returned (.string (part2 m s d)) ∧ Below w.heap.size w w' := by
  have HO : Hid (arrOk s d = true) := ho
  have hne : s ≠ [] := fun e => by rw [e] at hr; cases hr
  have RA : Hid (rowN s d ≤ 300 ∧ (rowsF s d).length = 2 * rowN s d ∧ ∀ k, k < rowN s d → (rowsF s d).getD (2 * k) [] = s.drop 1 ∧ arrOk (s.drop 1) ((rowsF s d).getD (2 * k + 1) []) = true) := rows_are ho hne
  obtain ⟨F, hF⟩ : ∃ F : Nat → ByteArray, F = fun i => lineV m ((rowsF s d).getD (2 * i + 1) []) := ⟨_, rfl⟩
  have FE : Hid (∀ i, F i = (fun i => lineV m ((rowsF s d).getD (2 * i + 1) [])) i) := fun i => by rw [hF]
  have FB : Hid (∀ i, i < rowN s d → (F i).size ≤ 13800) := fun i hi => by rw [hF]; exact lineV_le hm (arrOk_num (RA.out.2.2 i hi).2) (arrOk_len (RA.out.2.2 i hi).2)
  have FS : Hid (∀ k, k ≤ rowN s d → (cat ⟨#[10]⟩ F k).size ≤ 4140600) := fun k hk => by
    have := cat_le (sep := ⟨#[10]⟩) (f := F) (M := 13800) (by decide) (k := k) (fun i hi => FB.out i (by omega))
    have : k * (13800 + 2) ≤ 300 * (13800 + 2) := Nat.mul_le_mul_right _ (by have := RA.out.1; omega)
    omega
  have EV : Hid (part2 m s d = cat ⟨#[10]⟩ F (rowN s d)) := by show _ = _; rw [hF]; rfl
  rw [EV.out]
  have C3 : Hid (∀ W, Below w.heap.size w W → Calls Tryd.prog 62 #[v] W fun e w' => ∃ v', e = .returned v' ∧ Arrs W.heap.size w'.heap.size w' v' (rowsF s d) ∧ Below W.heap.size W w') := fun W hb => by
    cases s with
    | nil => exact absurd rfl hne
    | cons n0 t => exact l3rows_spec (h.keep hb) ho
  have HT : Hid ((s.drop 1).length = 1) := by show _ = _; simp; omega
  obtain ⟨sa, sc, da, dc, rfl, _, _, _, _⟩ := h
  have HR : Hid (((s.length : Nat) : Int) = 2) := by show _ = _; omega
  rw [hr] at *
  clear ho hne hF EV HR
  go_enter Tryd.func30, Tryd.ntmps30
  go_wp2_with fail
  refine (C3.out _ (bAlloc (Below.refl _ _) _)).mono ?_
  rintro e w1 ⟨v1, rfl, ha, hb⟩
  have A1 : Hid (ArrsI w1 v1 (rowsF s d)) := ha.arrsI
  obtain ⟨ra, rn, rc, rfl, hrn, _⟩ := A1.out
  obtain rfl : rn = rowN s d := by have := RA.out.2.1; omega
  have B1 : Hid (Below w.heap.size w w1) := bTrans (bAlloc (Below.refl _ _) _) hb
  have X1 : Hid (Box w1 w.heap.size (.slice sa 2 sc) (.slice da d.length dc) 27) := (box_new w _ _ _).keep hb
  have R300 := RA.out.1
  clear ha hb hrn C3
  generalize hn : rowN s d = n at *
  go_wp2
  go_loopw [6, 7] (fun u i w' => ∃ k : Nat, k ≤ n ∧ i = .int .i64 (k : Int) ∧ u = .string (cat ⟨#[10]⟩ F k) ∧ Below w1.heap.size w1 w') (fun _ i _ => n - (intOf i).toNat)
  case atStart => exact ⟨0, by omega, rfl, rfl, Below.refl _ _⟩
  case round =>
    obtain ⟨k, hk, rfl, rfl, hb⟩ := hrel
    have BK : Hid (Below w1.heap.size w1 wr) := hb
    clear hb
    by_cases hlt : (k : Int) < (n : Int)
    · have L : k < n := by omega
      obtain ⟨o, off, x, y, rfl, ho, p0, p1, i0, i1⟩ := (A1.out.keep BK.out).at L
      obtain ⟨ya, yc, rfl, gy, iy⟩ := i1
      have CL : Hid (∀ W, Below wr.heap.size wr W → Calls Tryd.prog 63 #[.slice ya ((rowsF s d).getD (2 * k + 1) []).length yc, .int .i64 (m : Int)] W fun r w' => r = .returned (.string (F k)) ∧ Below W.heap.size W w') := fun W hb => by
        rw [FE.out]
        exact line_spec yc (iy.keep hb) (arrOk_len (RA.out.2.2 k L).2) (arrOk_num (RA.out.2.2 k L).2) m hm
      clear i0 gy iy
      generalize ((rowsF s d).getD (2 * k + 1) []).length = yl at *
      have x0 := (X1.out.keep BK.out).c0
      have fb := FB.out k L
      have wz := FS.out k (by omega)
      have EF : Hid ((⟨#[]⟩ : ByteArray) ++ F 0 = cat ⟨#[10]⟩ F 1) := cat_first _ F
      have EN : Hid (k ≠ 0 → cat ⟨#[10]⟩ F k ++ ⟨#[10]⟩ ++ F k = cat ⟨#[10]⟩ F (k + 1)) := cat_next _ F
      have e1 : ByteArray.size ⟨#[10]⟩ = 1 := rfl
      clear ho
      by_cases k0 : k = 0
      · subst k0
        rw [cat_zero]
        have kk : ¬ ((0 : Nat) : Int) > 0 := by omega
        generalize F 0 = t at *
        have z0 : (⟨#[]⟩ : ByteArray).size + t.size ≤ 9223372036854775807 := by have : (⟨#[]⟩ : ByteArray).size = 0 := rfl; omega
        have p0' := p0
        have p1' := p1
        rw [show off + 0 * 2 = off by omega] at p0' p1'
        clear e1 wz EN fb p0 p1
        go_wp2_with fail
        refine (CL.out _ (Below.refl _ _)).mono ?_
        rintro rr w2 ⟨rfl, hb⟩
        have B2 : Hid (Below w1.heap.size w1 w2) := bTrans BK.out hb
        clear hb CL p0' p1'
        go_wp2
        go_roundw
        case rel => exact ⟨1, by omega, by go_num, by rw [EF.out], B2.out⟩
        case measure => simp [intOf]; omega
      · have kk : (k : Int) > 0 := by omega
        have EX : Hid (cat ⟨#[10]⟩ F k ++ ⟨#[10]⟩ ++ F k = cat ⟨#[10]⟩ F (k + 1)) := EN.out k0
        generalize cat ⟨#[10]⟩ F k = c at *
        generalize F k = t at *
        have z1 : c.size + ByteArray.size ⟨#[10]⟩ ≤ 9223372036854775807 := by omega
        have z2 : (c ++ ⟨#[10]⟩).size + t.size ≤ 9223372036854775807 := by rw [str_len]; omega
        clear e1 wz EN EF k0 fb
        go_wp2_with fail
        refine (CL.out _ (Below.refl _ _)).mono ?_
        rintro rr w2 ⟨rfl, hb⟩
        have B2 : Hid (Below w1.heap.size w1 w2) := bTrans BK.out hb
        clear hb CL p0 p1
        go_wp2
        go_roundw
        case rel => exact ⟨k + 1, by omega, by go_num, by rw [EX.out], B2.out⟩
        case measure => simp [intOf]; omega
    · obtain rfl : k = n := by omega
      go_wp2
      go_ret
      exact ⟨rfl, bTrans B1.out BK.out⟩
set_option maxRecDepth 20000 in
set_option maxHeartbeats 8000000 in
/-- l16Parts of a right array of rank 3. -/
theorem parts3_spec {s d : List Int} {v : Value} {w : World} (h : ArrI w v s d) (ho : arrOk s d = true) (hr : s.length = 3) (m : Nat) (hm : m ≤ 22) :
    Calls Tryd.prog 30 #[v, .int .i64 (m : Int)] w fun r w' => r = .returned (.string (part3 m s d)) ∧ Below w.heap.size w w' := by
  have HO : Hid (arrOk s d = true) := ho
  have hne : s ≠ [] := fun e => by rw [e] at hr; cases hr
  have RA : Hid (rowN s d ≤ 300 ∧ (rowsF s d).length = 2 * rowN s d ∧ ∀ k, k < rowN s d → (rowsF s d).getD (2 * k) [] = s.drop 1 ∧ arrOk (s.drop 1) ((rowsF s d).getD (2 * k + 1) []) = true) := rows_are ho hne
  obtain ⟨F, hF⟩ : ∃ F : Nat → ByteArray, F = fun i => part2 m ((rowsF s d).getD (2 * i) []) ((rowsF s d).getD (2 * i + 1) []) := ⟨_, rfl⟩
  have FE : Hid (∀ i, F i = (fun i => part2 m ((rowsF s d).getD (2 * i) []) ((rowsF s d).getD (2 * i + 1) [])) i) := fun i => by rw [hF]
  have FB : Hid (∀ i, i < rowN s d → (F i).size ≤ 4140600) := fun i hi => by rw [hF]; show (part2 m _ _).size ≤ _; rw [(RA.out.2.2 i hi).1]; exact part2_le hm (RA.out.2.2 i hi).2 (by intro e; have := congrArg List.length e; simp at this; omega)
  have FS : Hid (∀ k, k ≤ rowN s d → (cat ⟨#[10, 10]⟩ F k).size ≤ 1242180600) := fun k hk => by
    have := cat_le (sep := ⟨#[10, 10]⟩) (f := F) (M := 4140600) (by decide) (k := k) (fun i hi => FB.out i (by omega))
    have : k * (4140600 + 2) ≤ 300 * (4140600 + 2) := Nat.mul_le_mul_right _ (by have := RA.out.1; omega)
    omega
  have EV : Hid (part3 m s d = cat ⟨#[10, 10]⟩ F (rowN s d)) := by show _ = _; rw [hF]; rfl
  rw [EV.out]
  have C3 : Hid (∀ W, Below w.heap.size w W → Calls Tryd.prog 62 #[v] W fun e w' => ∃ v', e = .returned v' ∧ Arrs W.heap.size w'.heap.size w' v' (rowsF s d) ∧ Below W.heap.size W w') := fun W hb => by
    cases s with
    | nil => exact absurd rfl hne
    | cons n0 t => exact l3rows_spec (h.keep hb) ho
  have HT : Hid ((s.drop 1).length = 2) := by show _ = _; simp; omega
  obtain ⟨sa, sc, da, dc, rfl, _, _, _, _⟩ := h
  have HR : Hid (((s.length : Nat) : Int) = 3) := by show _ = _; omega
  rw [hr] at *
  clear ho hne hF EV HR
  go_enter Tryd.func30, Tryd.ntmps30
  go_wp2_with fail
  refine (C3.out _ (bAlloc (Below.refl _ _) _)).mono ?_
  rintro e w1 ⟨v1, rfl, ha, hb⟩
  have A1 : Hid (ArrsI w1 v1 (rowsF s d)) := ha.arrsI
  obtain ⟨ra, rn, rc, rfl, hrn, _⟩ := A1.out
  obtain rfl : rn = rowN s d := by have := RA.out.2.1; omega
  have B1 : Hid (Below w.heap.size w w1) := bTrans (bAlloc (Below.refl _ _) _) hb
  have X1 : Hid (Box w1 w.heap.size (.slice sa 3 sc) (.slice da d.length dc) 27) := (box_new w _ _ _).keep hb
  have R300 := RA.out.1
  clear ha hb hrn C3
  generalize hn : rowN s d = n at *
  go_wp2
  go_loopw [6, 7] (fun u i w' => ∃ k : Nat, k ≤ n ∧ i = .int .i64 (k : Int) ∧ u = .string (cat ⟨#[10, 10]⟩ F k) ∧ Below w1.heap.size w1 w') (fun _ i _ => n - (intOf i).toNat)
  case atStart => exact ⟨0, by omega, rfl, rfl, Below.refl _ _⟩
  case round =>
    obtain ⟨k, hk, rfl, rfl, hb⟩ := hrel
    have BK : Hid (Below w1.heap.size w1 wr) := hb
    clear hb
    by_cases hlt : (k : Int) < (n : Int)
    · have L : k < n := by omega
      obtain ⟨o, off, x, y, rfl, ho, p0, p1, i0, i1⟩ := (A1.out.keep BK.out).at L
      obtain ⟨ya, yc, rfl, gy, iy⟩ := i1
      obtain ⟨xa, xc, rfl, gx, ix⟩ := i0
      have CL : Hid (∀ W, Below wr.heap.size wr W → Calls Tryd.prog 30 #[.agg #[.slice xa ((rowsF s d).getD (2 * k) []).length xc, .slice ya ((rowsF s d).getD (2 * k + 1) []).length yc], .int .i64 (m : Int)] W fun r w' => r = .returned (.string (F k)) ∧ Below W.heap.size W w') := fun W hb => by
        rw [FE.out]
        exact parts2_spec (show ArrI W _ _ _ from ⟨_, _, _, _, rfl, ix.keep hb, iy.keep hb, gx, gy⟩) (by rw [(RA.out.2.2 k L).1]; exact (RA.out.2.2 k L).2) (by rw [(RA.out.2.2 k L).1]; exact HT.out) m hm
      clear gx gy ix iy
      generalize ((rowsF s d).getD (2 * k) []).length = xl at *
      generalize ((rowsF s d).getD (2 * k + 1) []).length = yl at *
      have x0 := (X1.out.keep BK.out).c0
      have fb := FB.out k L
      have wz := FS.out k (by omega)
      have EF : Hid ((⟨#[]⟩ : ByteArray) ++ F 0 = cat ⟨#[10, 10]⟩ F 1) := cat_first _ F
      have EN : Hid (k ≠ 0 → cat ⟨#[10, 10]⟩ F k ++ ⟨#[10, 10]⟩ ++ F k = cat ⟨#[10, 10]⟩ F (k + 1)) := cat_next _ F
      have e1 : ByteArray.size ⟨#[10]⟩ = 1 := rfl
      clear ho
      by_cases k0 : k = 0
      · subst k0
        rw [cat_zero]
        have kk : ¬ ((0 : Nat) : Int) > 0 := by omega
        generalize F 0 = t at *
        have z0 : (⟨#[]⟩ : ByteArray).size + t.size ≤ 9223372036854775807 := by have : (⟨#[]⟩ : ByteArray).size = 0 := rfl; omega
        have p0' := p0
        have p1' := p1
        rw [show off + 0 * 2 = off by omega] at p0' p1'
        clear e1 wz EN fb p0 p1
        go_wp2_with fail
        refine (CL.out _ (Below.refl _ _)).mono ?_
        rintro rr w2 ⟨rfl, hb⟩
        have B2 : Hid (Below w1.heap.size w1 w2) := bTrans BK.out hb
        clear hb CL p0' p1'
        go_wp2
        go_roundw
        case rel => exact ⟨1, by omega, by go_num, by rw [EF.out], B2.out⟩
        case measure => simp [intOf]; omega
      · have kk : (k : Int) > 0 := by omega
        have EX : Hid (cat ⟨#[10, 10]⟩ F k ++ ⟨#[10]⟩ ++ ⟨#[10]⟩ ++ F k = cat ⟨#[10, 10]⟩ F (k + 1)) := by show _ = _; rw [← EN.out k0, str_assoc (cat ⟨#[10, 10]⟩ F k) ⟨#[10]⟩ ⟨#[10]⟩]; rfl
        generalize cat ⟨#[10, 10]⟩ F k = c at *
        generalize F k = t at *
        have z1 : c.size + ByteArray.size ⟨#[10]⟩ ≤ 9223372036854775807 := by omega
        have z2 : (c ++ ⟨#[10]⟩).size + ByteArray.size ⟨#[10]⟩ ≤ 9223372036854775807 := by rw [str_len]; omega
        have z3 : (c ++ ⟨#[10]⟩ ++ ⟨#[10]⟩).size + t.size ≤ 9223372036854775807 := by rw [str_len, str_len]; omega
        clear e1 wz EN EF k0 fb
        go_wp2_with fail
        refine (CL.out _ (Below.refl _ _)).mono ?_
        rintro rr w2 ⟨rfl, hb⟩
        have B2 : Hid (Below w1.heap.size w1 w2) := bTrans BK.out hb
        clear hb CL p0 p1
        go_wp2
        go_roundw
        case rel => exact ⟨k + 1, by omega, by go_num, by rw [EX.out], B2.out⟩
        case measure => simp [intOf]; omega
    · obtain rfl : k = n := by omega
      go_wp2
      go_ret
      exact ⟨rfl, bTrans B1.out BK.out⟩
set_option maxRecDepth 20000 in
set_option maxHeartbeats 8000000 in
/-- The specification's Show. -/
theorem show_spec {s d : List Int} {v : Value} {w : World} (h : ArrI w v s d) (hs : s.length ≤ 1048576) (hd : d.length ≤ 1048576) :
    Calls Tryd.prog 9 #[v] w fun r w' => r = .returned (.string (showV s d)) ∧ Below w.heap.size w w' := by
  have HA : Hid (ArrI w v s d) := h
  have CO : Hid (∀ W, Below w.heap.size w W → Calls Tryd.prog 15 #[v] W fun e w' => e = .returned (.bool (arrOk s d)) ∧ Below W.heap.size W w') := fun W hb => arrOk_spec (h.keep hb) hd
  obtain ⟨sa, sc, da, dc, rfl, _, h2, _, _⟩ := h
  have H2 : Hid (Ints w da d) := h2
  have HD : Hid (d.length ≤ 1048576) := hd
  clear h2 hd
  unfold showV
  cases ho : arrOk s d
  · rw [ho] at CO
    rw [if_neg (by decide)]
    clear ho
    go_enter Tryd.func9, Tryd.ntmps9
    go_wp2_with fail
    refine (CO.out _ (bAlloc (Below.refl _ _) _)).mono ?_
    rintro e w1 ⟨rfl, hb⟩
    have B1 : Hid (Below w.heap.size w w1) := bTrans (bAlloc (Below.refl _ _) _) hb
    clear hb CO
    go_wp2
    go_ret
    exact ⟨rfl, B1.out⟩
  · have HO : Hid (arrOk s d = true) := ho
    rw [ho] at CO
    rw [if_pos rfl]
    clear ho
    by_cases hr : (s.length : Int) < 2
    · rw [if_pos (by omega), lineV_rowB]
      have CR : Hid (∀ W, Below w.heap.size w W → Calls Tryd.prog 29 #[.slice da d.length dc] W fun e w' => e = .returned (.string (rowB d d.length)) ∧ Below W.heap.size W w') := fun W hb => by
        have := showRow_spec dc (H2.out.keep hb) HD.out
        unfold rowV at this
        rw [if_pos (arrOk_num HO.out)] at this
        exact this
      generalize rowB d d.length = V at *
      go_enter Tryd.func9, Tryd.ntmps9
      go_wp2_with fail
      refine (CO.out _ (bAlloc (Below.refl _ _) _)).mono ?_
      rintro e w1 ⟨rfl, hb⟩
      have B1 : Hid (Below w.heap.size w w1) := bTrans (bAlloc (Below.refl _ _) _) hb
      have X1 : Hid (Box w1 w.heap.size (.slice sa s.length sc) (.slice da d.length dc) 27) := (box_new w _ _ _).keep hb
      have x0 := X1.out.c0
      have x1 := X1.out.c1
      clear hb CO
      go_wp2_with fail
      refine (CR.out _ B1.out).mono ?_
      rintro e w2 ⟨rfl, hb⟩
      have B2 : Hid (Below w.heap.size w w2) := bTrans B1.out hb
      clear hb CR
      go_wp2
      go_ret
      exact ⟨rfl, B2.out⟩
    · have H3 : s.length = 2 ∨ s.length = 3 := by
        have := (sizeV_ok (arrOk_shape HO.out)).1
        omega
      obtain ⟨z1, z2, z3, z4⟩ := wide_bd HO.out
      obtain ⟨V, hV⟩ : ∃ V, V = (if s.length < 2 then lineV 0 d else if s.length = 2 then part2 (wideV d).toNat s d else part3 (wideV d).toNat s d) := ⟨_, rfl⟩
      rw [← hV]
      have CW : Hid (∀ W, Below w.heap.size w W → Calls Tryd.prog 31 #[.slice da d.length dc] W fun e w' => e = .returned (.int .i64 (wideV d)) ∧ Below W.heap.size W w') := fun W hb => showWide_spec dc (H2.out.keep hb) HD.out
      have CP : Hid (∀ W, Below w.heap.size w W → Calls Tryd.prog 30 #[.agg #[.slice sa s.length sc, .slice da d.length dc], .int .i64 (wideV d)] W fun e w' => e = .returned (.string V) ∧ Below W.heap.size W w') := fun W hb => by
        rw [hV, if_neg (by omega)]
        rcases H3 with h3 | h3
        · rw [if_pos h3]
          have := parts2_spec (HA.out.keep hb) HO.out h3 (wideV d).toNat z4
          rw [z3] at this
          exact this
        · rw [if_neg (by omega)]
          have := parts3_spec (HA.out.keep hb) HO.out h3 (wideV d).toNat z4
          rw [z3] at this
          exact this
      generalize wideV d = Wd at *
      clear hV H3 z1 z2 z3 z4
      go_enter Tryd.func9, Tryd.ntmps9
      go_wp2_with fail
      refine (CO.out _ (bAlloc (Below.refl _ _) _)).mono ?_
      rintro e w1 ⟨rfl, hb⟩
      have B1 : Hid (Below w.heap.size w w1) := bTrans (bAlloc (Below.refl _ _) _) hb
      have X1 : Hid (Box w1 w.heap.size (.slice sa s.length sc) (.slice da d.length dc) 27) := (box_new w _ _ _).keep hb
      have x0 := X1.out.c0
      have x1 := X1.out.c1
      clear hb CO
      go_wp2_with fail
      have SK : Hid (∀ W, Below w1.heap.size w1 W → W.cell? ⟨w.heap.size, 0, none⟩ = some (.slice sa s.length sc) ∧ W.cell? ⟨w.heap.size, 1, none⟩ = some (.slice da d.length dc)) := fun W hb => ⟨(X1.out.keep hb).c0, (X1.out.keep hb).c1⟩
      go_region_held3 (fun w' => w'.cell? ⟨w.heap.size, 0, none⟩ = some (.slice sa s.length sc) ∧ w'.cell? ⟨w.heap.size, 1, none⟩ = some (.slice da d.length dc))
        ((refine SK.out _ ?_; (repeat first | with_reducible exact HB3.out | with_reducible exact HB2.out | with_reducible exact Below.refl _ _ | with_reducible refine Below.drew ?_)))
        (first
          | (go_at_call 31; refine (CW.out _ (B1.out.trans (((Below.refl w1.heap.size w1).drew).mono B1.out.size))).mono ?_; rintro r w2 ⟨rfl, hb⟩; have HB2 : Hid (Below w1.heap.size w1 w2) := bTrans ((Below.refl w1.heap.size w1).drew) hb; clear hb)
          | (go_at_call 30; refine (CP.out _ (B1.out.trans (HB2.out.mono B1.out.size))).mono ?_; rintro r w3 ⟨rfl, hb⟩; have HB3 : Hid (Below w1.heap.size w1 w3) := bTrans HB2.out hb; clear hb))
      all_goals
        go_wp2
        go_ret
        exact ⟨rfl, B1.out.trans (HB3.out.mono B1.out.size)⟩
end Go.Proofs.YtcaidhmolnnikaaDoor
