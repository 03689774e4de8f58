/-
  Walks: the specification's l8Tokens, l8One, TokenText.
-/
import Derived.Test.YtcaidhmolnnikaaGreatDoorTokW
import Derived.Laws.BytesArg
namespace Go.Proofs.YtcaidhmolnnikaaGreatDoor
open Go.RowKit
set_option linter.unusedVariables false
set_option linter.unusedSimpArgs false
set_option maxRecDepth 20000 in
set_option maxHeartbeats 4000000 in
theorem tokens_spec {w : World} {a : Option Addr} {n c : Nat} {E : Nat → Spn} (h : SsA w a n E) (hn : n ≤ 1048576) :
    Calls Tryz.prog 19 #[.slice a n c] w fun e w' => e = .returned (.bool (tokR n E)) ∧ Below w.heap.size w w' := by
  have H : Hid (SsA w a n E) := h
  have ER : Hid (tokAll E n = true → tokR n E = decide ((n : Int) ≤ 300)) := fun h => by
    unfold tokR
    rw [h, Bool.true_and]
    by_cases e : n ≤ 300
    · rw [decide_eq_true e, decide_eq_true (by omega)]
    · rw [decide_eq_false e, decide_eq_false (by omega)]
  have EF : Hid (tokAll E n = false → tokR n E = false) := fun h => by unfold tokR; rw [h]; rfl
  clear h
  go_enter Tryz.func19, Tryz.ntmps19
  go_wp2
  go_loopw [3] (fun i w' => ∃ k : Nat, k ≤ n ∧ i = .int .i64 (k : Int) ∧ tokAll E k = true ∧ Below w.heap.size w w') (fun i _ => n - (intOf i).toNat)
  case atStart => exact ⟨0, by omega, rfl, rfl, Below.refl _ _⟩
  case round =>
    obtain ⟨k, hk, rfl, ha, hb⟩ := hrel
    have HA : Hid (tokAll E k = true) := ha
    have HB : Hid (Below w.heap.size w wr) := hb
    clear ha hb
    by_cases hlt : (k : Int) < (n : Int)
    · have L : k < n := by omega
      obtain ⟨o, off, rfl, ho, p0, p1⟩ := (H.out.keep HB.out).at L
      have NO : Hid (tokB (E k).f (E k).t = false → tokR n E = false) := fun h => EF.out (tokAll_no L h)
      have YES : Hid (tokB (E k).f (E k).t = true → tokAll E (k + 1) = true) := fun h => tokAll_next HA.out h
      have CT : Hid (∀ W, Calls Tryz.prog 38 #[.agg #[.int .i64 (E k).f, .int .i64 (E k).t]] W fun e w' => e = .returned (.bool (tokB (E k).f (E k).t)) ∧ Below W.heap.size W w') := fun W => tokOk_spec _ _ W
      clear ho
      generalize (E k).f = e0 at *
      generalize (E k).t = e1 at *
      generalize tokB e0 e1 = q at *
      go_wp2_with fail
      refine (CT.out _).mono ?_
      rintro r w2 ⟨rfl, hb⟩
      have B2 : Hid (Below w.heap.size w w2) := bTrans HB.out hb
      clear hb CT p0 p1
      cases q
      · go_wp2
        go_ret
        exact ⟨by rw [NO.out (by trivial)]; rfl, B2.out⟩
      · go_wp2
        go_roundw
        case rel => exact ⟨k + 1, by omega, by go_num, YES.out (by trivial), B2.out⟩
        case measure => simp [intOf]; omega
    · obtain rfl : k = n := by omega
      go_wp2
      go_ret
      exact ⟨by rw [ER.out HA.out]; rfl, HB.out⟩
set_option maxRecDepth 20000 in
set_option maxHeartbeats 4000000 in
/-- The text of a right token. -/
theorem one_spec {k v : Int} (h : tokB k v = true) (w : World) :
    Calls Tryz.prog 20 #[.agg #[.int .i64 k, .int .i64 v]] w fun e w' => e = .returned (.string (tokW k v)) ∧ Below w.heap.size w w' := by
  rcases tokKinds k with rfl | rfl | rfl | rfl | rfl | rfl | hk
  · have CD : Hid (∀ W, Calls Tryz.prog 39 #[.int .i64 v] W fun e w' => e = .returned (.string (tokW 1 v)) ∧ Below W.heap.size W w') := fun W => l8Digits_spec h W
    generalize tokW 1 v = s at *
    clear h
    go_enter Tryz.func20, Tryz.ntmps20
    go_wp2_with fail
    refine (CD.out _).mono ?_
    rintro r w1 ⟨rfl, hb⟩
    have HB : Hid (Below w.heap.size w w1) := bTrans (bAlloc (Below.refl _ _) _) hb
    clear hb CD
    go_wp2
    go_ret
    exact ⟨rfl, HB.out⟩
  · have hv : 0 ≤ v ∧ v ≤ 25 := by rw [tok2] at h; simpa using h
    obtain ⟨v0, v1⟩ := hv
    have w8 : IntKind.u8.wrap (65 + v) = 65 + v := by rw [IntKind.wrap_u8]; omega
    have CV : (convert 22 9 (.slice (some ⟨w.heap.size + 1, 0, none⟩) 1 1)).run Tryz.prog ((w.alloc (.cells #[.int .i64 2, .int .i64 v] 29)).alloc (.cells #[.int .u8 (65 + v)] 5)) = .ok (.string (strOfNums [65 + v])) ((w.alloc (.cells #[.int .i64 2, .int .i64 v] 29)).alloc (.cells #[.int .u8 (65 + v)] 5)) :=
      run_convert_bytes_arg _ _ _ Tryz.underlying22 Tryz.underlying5 (w.heap.size + 1) 0 1 1 [65 + v] rfl (fun i hi => by
        obtain rfl : i = 0 := by omega
        have := heap_alloc_new (w.alloc (.cells #[.int .i64 2, .int .i64 v] 29)) (.cells #[.int .u8 (65 + v)] 5)
        rw [show (w.alloc (.cells #[.int .i64 2, .int .i64 v] 29)).heap.size = w.heap.size + 1 from by simp only [World.alloc, Array.size_push]] at this
        exact cell_at this rfl) _ Tryz.underlying9
    have e : tokW 2 v = strOfNums [65 + v] := rfl
    rw [e]
    generalize strOfNums [65 + v] = s at *
    clear h e
    go_enter Tryz.func20, Tryz.ntmps20
    go_wp2
    go_ret
    exact ⟨rfl, bAlloc (bAlloc (Below.refl _ _) _) _⟩
  · have hv := sign_bd (show signB v = true from h)
    obtain ⟨v0, v1⟩ := hv
    have w8 : IntKind.u8.wrap v = v := by rw [IntKind.wrap_u8]; omega
    have CV : (convert 22 9 (.slice (some ⟨w.heap.size + 1, 0, none⟩) 1 1)).run Tryz.prog ((w.alloc (.cells #[.int .i64 3, .int .i64 v] 29)).alloc (.cells #[.int .u8 v] 5)) = .ok (.string (strOfNums [v])) ((w.alloc (.cells #[.int .i64 3, .int .i64 v] 29)).alloc (.cells #[.int .u8 v] 5)) :=
      run_convert_bytes_arg _ _ _ Tryz.underlying22 Tryz.underlying5 (w.heap.size + 1) 0 1 1 [v] rfl (fun i hi => by
        obtain rfl : i = 0 := by omega
        have := heap_alloc_new (w.alloc (.cells #[.int .i64 3, .int .i64 v] 29)) (.cells #[.int .u8 v] 5)
        rw [show (w.alloc (.cells #[.int .i64 3, .int .i64 v] 29)).heap.size = w.heap.size + 1 from by simp only [World.alloc, Array.size_push]] at this
        exact cell_at this rfl) _ Tryz.underlying9
    have e : tokW 3 v = strOfNums [v] := rfl
    rw [e]
    generalize strOfNums [v] = s at *
    clear h e
    go_enter Tryz.func20, Tryz.ntmps20
    go_wp2
    go_ret
    exact ⟨rfl, bAlloc (bAlloc (Below.refl _ _) _) _⟩
  iterate 3
    · clear h
      go_enter Tryz.func20, Tryz.ntmps20
      go_wp2
      go_ret
      exact ⟨rfl, bAlloc (Below.refl _ _) _⟩
  · rw [tok5 hk] at h; cases h
set_option maxRecDepth 20000 in
set_option maxHeartbeats 4000000 in
/-- The specification's TokenText. -/
theorem tokenText_spec {w : World} {a : Option Addr} {n c : Nat} {E : Nat → Spn} (h : SsA w a n E) (hn : n ≤ 1048576) :
    Calls Tryz.prog 7 #[.slice a n c] w fun e w' => e = .returned (.string (tokV n E)) ∧ Below w.heap.size w w' := by
  have H : Hid (SsA w a n E) := h
  have CN : Hid (Calls Tryz.prog 19 #[.slice a n c] w fun e w' => e = .returned (.bool (tokR n E)) ∧ Below w.heap.size w w') := tokens_spec h hn
  unfold tokV
  clear h
  cases hall : tokR n E
  · rw [hall] at CN
    rw [if_neg (by decide)]
    clear hall
    go_enter Tryz.func7, Tryz.ntmps7
    go_wp2_with fail
    refine CN.out.mono ?_
    rintro r w1 ⟨rfl, hb⟩
    have B1 : Hid (Below w.heap.size w w1) := hb
    clear hb CN
    go_wp2
    go_ret
    exact ⟨rfl, B1.out⟩
  · have HA : Hid (tokAll E n = true) := by
      show _ = _
      unfold tokR at hall
      simp only [Bool.and_eq_true] at hall
      exact hall.1
    rw [hall] at CN
    rw [if_pos rfl]
    clear hall
    obtain ⟨WV, hWV⟩ : ∃ WV, WV = tokJ E n := ⟨_, rfl⟩
    have HW : Hid (WV = tokJ E n) := hWV
    rw [← hWV]
    clear hWV
    go_enter Tryz.func7, Tryz.ntmps7
    go_wp2_with fail
    refine CN.out.mono ?_
    rintro r w1 ⟨rfl, hb⟩
    have B1 : Hid (Below w.heap.size w w1) := hb
    clear hb CN
    go_wp2
    go_loopw [3, 4] (fun s i w' => ∃ k : Nat, k ≤ n ∧ i = .int .i64 (k : Int) ∧ s = .string (tokJ E k) ∧ Below w.heap.size w w') (fun _ i _ => n - (intOf i).toNat)
    case atStart => exact ⟨0, by omega, rfl, rfl, B1.out⟩
    case round =>
      obtain ⟨k, hk, rfl, rfl, hb⟩ := hrel
      have BK : Hid (Below w.heap.size w wr) := hb
      clear hb B1
      by_cases hlt : (k : Int) < (n : Int)
      · have L : k < n := by omega
        obtain ⟨o, off, rfl, ho, p0, p1⟩ := (H.out.keep BK.out).at L
        have okx := tokAll_at HA.out L
        have CD : Hid (Calls Tryz.prog 20 #[.agg #[.int .i64 (E k).f, .int .i64 (E k).t]] wr fun e w' => e = .returned (.string (tokW (E k).f (E k).t)) ∧ Below wr.heap.size wr w') := one_spec okx wr
        have EW : Hid ((if k = 0 then tokJ E k else tokJ E k ++ ⟨#[32]⟩) ++ tokW (E k).f (E k).t = tokJ E (k + 1)) := rfl
        have sz := tokW_size okx
        have wz := tokJ_le HA.out hk
        have e1 : ByteArray.size ⟨#[32]⟩ = 1 := rfl
        clear okx ho
        generalize (E k).f = x at *
        generalize (E k).t = y at *
        generalize tokW x y = s at *
        generalize tokJ E k = t at *
        have z1 : t.size + ByteArray.size ⟨#[32]⟩ ≤ 9223372036854775807 := by omega
        have z2 : (t ++ ⟨#[32]⟩).size + s.size ≤ 9223372036854775807 := by rw [str_len]; omega
        have z3 : t.size + s.size ≤ 9223372036854775807 := by omega
        clear L e1
        by_cases k0 : k = 0
        · have kk : ¬ (k : Int) > 0 := by omega
          have EQ : Hid (t ++ s = tokJ E (k + 1)) := by rw [if_pos k0] at EW; exact EW
          clear EW z1 z2 k0
          go_wp2_with fail
          refine CD.out.mono ?_
          rintro r w2 ⟨rfl, hb⟩
          have B2 : Hid (Below w.heap.size w w2) := bTrans BK.out hb
          clear hb CD p0 p1
          go_wp2
          go_roundw
          case rel => exact ⟨k + 1, by omega, by go_num, by rw [EQ.out], B2.out⟩
          case measure => simp [intOf]; omega
        · have kk : (k : Int) > 0 := by omega
          have EQ : Hid (t ++ ⟨#[32]⟩ ++ s = tokJ E (k + 1)) := by rw [if_neg k0] at EW; exact EW
          clear EW z3 k0
          go_wp2_with fail
          refine CD.out.mono ?_
          rintro r w2 ⟨rfl, hb⟩
          have B2 : Hid (Below w.heap.size w w2) := bTrans BK.out hb
          clear hb CD p0 p1
          go_wp2
          go_roundw
          case rel => exact ⟨k + 1, by omega, by go_num, by rw [EQ.out], B2.out⟩
          case measure => simp [intOf]; omega
      · obtain rfl : k = n := by omega
        rw [← HW.out]
        go_wp2
        go_ret
        exact ⟨rfl, BK.out⟩
end Go.Proofs.YtcaidhmolnnikaaGreatDoor
