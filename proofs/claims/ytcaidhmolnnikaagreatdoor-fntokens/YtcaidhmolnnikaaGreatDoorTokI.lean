/-
  Walks: the program's tokensOk, tokenWord, TokenText, over strings.Join's contract.
-/
import Derived.Test.YtcaidhmolnnikaaGreatDoorTokW
import Derived.Test.YtcaidhmolnnikaaGreatDoorRowI2
namespace Go.Proofs.YtcaidhmolnnikaaGreatDoor
open Go.RowKit
set_option linter.unusedVariables false
set_option linter.unusedSimpArgs false
set_option maxRecDepth 20000 in
set_option maxHeartbeats 4000000 in
theorem tokens_impl {w : World} {a : Option Addr} {n c : Nat} {E : Nat → Spn} (h : SsA w a n E) (hn : n ≤ 1048576) :
    Calls Tryz.prog 16 #[.slice a n c] w fun e w' => e = .returned (.bool (tokR n E)) ∧ Below w.heap.size w w' := by
  have H : Hid (SsA w a n E) := h
  clear h
  by_cases hbig : (n : Int) > 300
  · have ER : Hid (tokR n E = false) := by
      show _ = _
      unfold tokR
      rw [decide_eq_false (by omega), Bool.and_false]
    go_enter Tryz.func16, Tryz.ntmps16
    go_wp2
    go_ret
    exact ⟨by rw [ER.out]; rfl, Below.refl _ _⟩
  have ER : Hid (tokAll E n = true → tokR n E = true) := fun h => by
    unfold tokR
    rw [h, decide_eq_true (by omega)]; rfl
  have EF : Hid (tokAll E n = false → tokR n E = false) := fun h => by unfold tokR; rw [h]; rfl
  go_enter Tryz.func16, Tryz.ntmps16
  go_wp2
  go_loopw [10] (fun i w' => ∃ k : Nat, k ≤ n ∧ i = .int .i64 (k : Int) ∧ tokAll E k = true ∧ Below w.heap.size w w') (fun i _ => n - (intOf i).toNat)
  case atStart => exact ⟨0, by omega, rfl, rfl, Below.refl _ _⟩
  case round =>
    obtain ⟨k, hk, rfl, ha, hb⟩ := hrel
    have HA : Hid (tokAll E k = true) := ha
    have HB : Hid (Below w.heap.size w wr) := hb
    clear ha hb
    by_cases hlt : (k : Int) < (n : Int)
    · have L : k < n := by omega
      obtain ⟨o, off, rfl, ho, p0, p1⟩ := (H.out.keep HB.out).at L
      have NO : Hid (tokB (E k).f (E k).t = false → tokR n E = false) := fun h => EF.out (tokAll_no L h)
      have YES : Hid (tokB (E k).f (E k).t = true → tokAll E (k + 1) = true) := fun h => tokAll_next HA.out h
      have CT : Hid (∀ W, Calls Tryz.prog 8 #[.agg #[.int .i64 (E k).f, .int .i64 (E k).t]] W fun e w' => e = .returned (.bool (tokB (E k).f (E k).t)) ∧ Below W.heap.size W w') := fun W => tokOk_impl _ _ W
      clear ho
      generalize (E k).f = e0 at *
      generalize (E k).t = e1 at *
      generalize tokB e0 e1 = q at *
      go_wp2_with fail
      refine (CT.out _).mono ?_
      rintro r w2 ⟨rfl, hb⟩
      have B2 : Hid (Below w.heap.size w w2) := bTrans (bAlloc HB.out _) hb
      clear hb CT p0 p1
      cases q
      · go_wp2
        go_ret
        exact ⟨by rw [NO.out (by trivial)]; rfl, B2.out⟩
      · go_wp2
        go_roundw
        case rel => exact ⟨k + 1, by omega, by go_num, YES.out (by trivial), B2.out⟩
        case measure => simp [intOf]; omega
    · obtain rfl : k = n := by omega
      go_wp2
      go_ret
      exact ⟨by rw [ER.out HA.out]; rfl, HB.out⟩
set_option maxRecDepth 20000 in
set_option maxHeartbeats 4000000 in
/-- The text of a right token. -/
theorem word_impl {k v : Int} (h : tokB k v = true) {w : World} (ht : TabW w) :
    Calls Tryz.prog 17 #[.agg #[.int .i64 k, .int .i64 v]] w fun e w' => e = .returned (.string (tokW k v)) ∧ Below w.heap.size w w' := by
  have HT : Hid (TabW w) := ht
  clear ht
  rcases tokKinds k with rfl | rfl | rfl | rfl | rfl | rfl | hk
  · have CD : Hid (∀ W, Below w.heap.size w W → Calls Tryz.prog 34 #[.int .i64 v] W fun e w' => e = .returned (.string (tokW 1 v)) ∧ Below W.heap.size W w') := fun W hb => numberWord_impl h (HT.out.on hb)
    generalize tokW 1 v = s at *
    clear h
    go_enter Tryz.func17, Tryz.ntmps17
    go_wp2_with fail
    refine (CD.out _ (bAlloc (Below.refl _ _) _)).mono ?_
    rintro r w1 ⟨rfl, hb⟩
    have HB : Hid (Below w.heap.size w w1) := bTrans (bAlloc (Below.refl _ _) _) hb
    clear hb CD
    go_wp2
    go_ret
    exact ⟨rfl, HB.out⟩
  · have hv : 0 ≤ v ∧ v ≤ 25 := by rw [tok2] at h; simpa using h
    obtain ⟨v0, v1⟩ := hv
    have w8 : IntKind.i32.wrap (65 + v) = 65 + v := by rw [IntKind.wrap_i32]; omega
    have EN := encode_small (n := 65 + v) (by omega) (by omega)
    have e : tokW 2 v = strOfNums [65 + v] := rfl
    rw [e]
    generalize strOfNums [65 + v] = s at *
    clear h e
    go_enter Tryz.func17, Tryz.ntmps17
    go_wp2
    go_ret
    exact ⟨by first | rfl | rw [EN], bAlloc (Below.refl _ _) _⟩
  · have hv := sign_bd (show signB v = true from h)
    obtain ⟨v0, v1⟩ := hv
    have w8 : IntKind.i32.wrap v = v := by rw [IntKind.wrap_i32]; omega
    have EN := encode_small (n := v) (by omega) (by omega)
    have e : tokW 3 v = strOfNums [v] := rfl
    rw [e]
    generalize strOfNums [v] = s at *
    clear h e
    go_enter Tryz.func17, Tryz.ntmps17
    go_wp2
    go_ret
    exact ⟨by first | rfl | rw [EN], bAlloc (Below.refl _ _) _⟩
  iterate 3
    · clear h
      go_enter Tryz.func17, Tryz.ntmps17
      go_wp2
      go_ret
      exact ⟨rfl, bAlloc (Below.refl _ _) _⟩
  · rw [tok5 hk] at h; cases h
theorem tokJ_jn (E : Nat → Spn) : ∀ k, tokJ E k = jn ((List.range k).map fun i => tokW (E i).f (E i).t)
  | 0 => rfl
  | k + 1 => by
    rw [List.range_succ, List.map_append, List.map_cons, List.map_nil, jn_snoc]
    simp only [tokJ, tokJ_jn E k]
    by_cases h : k = 0
    · subst h; rfl
    · rw [if_neg h, if_neg (by simp [h])]
set_option maxRecDepth 20000 in
set_option maxHeartbeats 4000000 in
/-- The program's TokenText. -/
theorem tokenText_impl (HJn : Joins) {w : World} {a : Option Addr} {n c : Nat} {E : Nat → Spn} (h : SsA w a n E) (hn : n ≤ 1048576) (ht : TabW w) :
    Calls Tryz.prog 6 #[.slice a n c] w fun e w' => e = .returned (.string (tokV n E)) ∧ Below w.heap.size w w' := by
  have H : Hid (SsA w a n E) := h
  have HTB : Hid (TabW w) := ht
  have CN : Hid (Calls Tryz.prog 16 #[.slice a n c] w fun e w' => e = .returned (.bool (tokR n E)) ∧ Below w.heap.size w w') := tokens_impl h hn
  unfold tokV
  clear h ht
  cases hall : tokR n E
  · rw [hall] at CN
    rw [if_neg (by decide)]
    clear hall
    go_enter Tryz.func6, Tryz.ntmps6
    go_wp2_with fail
    refine CN.out.mono ?_
    rintro r w1 ⟨rfl, hb⟩
    have B1 : Hid (Below w.heap.size w w1) := hb
    clear hb CN
    go_wp2
    go_ret
    exact ⟨rfl, B1.out⟩
  · have HA : Hid (tokAll E n = true) := by
      show _ = _
      unfold tokR at hall
      simp only [Bool.and_eq_true] at hall
      exact hall.1
    rw [hall] at CN
    rw [if_pos rfl, tokJ_jn]
    clear hall
    obtain ⟨F, hF⟩ : ∃ F : Nat → ByteArray, F = fun i => tokW (E i).f (E i).t := ⟨_, rfl⟩
    have FE : Hid (∀ i, F i = tokW (E i).f (E i).t) := fun i => by rw [hF]
    rw [← hF]
    have LW : Hid (((List.range n).map F).length = n) := by show _ = _; simp
    have JN : Hid (∀ W (bk : Nat), (∀ j x, ((List.range n).map F)[j]? = some x → W.cell? ⟨bk, j, none⟩ = some (.string x)) → bk < W.heap.size → Calls Tryz.prog 18 #[.slice (some ⟨bk, 0, none⟩) n n, .string ⟨#[32]⟩] W fun e w' => e = .returned (.string (jn ((List.range n).map F))) ∧ Below W.heap.size W w') := fun W bk hc hb => by
      have := HJn bk n ((List.range n).map F) W hc hb (by rw [LW.out]; exact Nat.le_refl _) (by rw [LW.out]; exact hn) (fun x hx => by
        simp only [List.mem_map, List.mem_range] at hx
        obtain ⟨i, hi, rfl⟩ := hx
        rw [FE.out]
        have := tokW_size (tokAll_at HA.out hi)
        omega)
      rw [LW.out] at this
      exact this
    have WX : Hid (∀ j x, ((List.range n).map F)[j]? = some x → j < n ∧ x = F j) := fun j x hx => by
      simp only [List.getElem?_map] at hx
      by_cases hj : j < n
      · rw [List.getElem?_range hj] at hx
        simp at hx
        exact ⟨hj, hx.symm⟩
      · rw [List.getElem?_eq_none (by simpa using hj)] at hx
        cases hx
    obtain ⟨R, hR⟩ : ∃ R, R = jn ((List.range n).map F) := ⟨_, rfl⟩
    rw [← hR] at JN ⊢
    clear hF hR
    go_enter Tryz.func6, Tryz.ntmps6
    go_wp2_with fail
    refine CN.out.mono ?_
    rintro r w1 ⟨rfl, hb⟩
    have B1 : Hid (Below w.heap.size w w1) := hb
    obtain ⟨w2, r2, t2⟩ := make_strs n hn w1 F
    have T2 : Hid (StrK w1 w1.heap.size n 0 w2 F) := t2
    clear hb CN t2
    go_wp2
    clear r2
    go_loopw [14] (fun i w' => ∃ k : Nat, k ≤ n ∧ i = .int .i64 (k : Int) ∧ StrK w1 w1.heap.size n k w' F) (fun i _ => n - (intOf i).toNat)
    case atStart => exact ⟨0, by omega, rfl, T2.out⟩
    case round =>
      obtain ⟨k, hk, rfl, hT⟩ := hrel
      have TK : Hid (StrK w1 w1.heap.size n k wr F) := hT
      clear hT T2
      have BK : Hid (Below w.heap.size w wr) := by obtain ⟨_, _, _, _, q⟩ := TK.out; exact bTrans B1.out q
      by_cases hlt : (k : Int) < (n : Int)
      · have L : k < n := by omega
        obtain ⟨o, off, rfl, ho, p0, p1⟩ := (H.out.keep BK.out).at L
        have okx := tokAll_at HA.out L
        have CD : Hid (∀ W, Below wr.heap.size wr W → Calls Tryz.prog 17 #[.agg #[.int .i64 (E k).f, .int .i64 (E k).t]] W fun e w' => e = .returned (.string (F k)) ∧ Below W.heap.size W w') := fun W hb => by rw [FE.out]; exact word_impl okx (HTB.out.on (bTrans BK.out hb))
        have PT : Hid (∀ W, Below wr.heap.size wr W → StrK w1 w1.heap.size n (k + 1) (W.setCell ⟨w1.heap.size, k, none⟩ (.string (F k))) F ∧ (∃ u, W.cell? ⟨w1.heap.size, k, none⟩ = some u) ∧ W.frozen? ⟨w1.heap.size, k, none⟩ = false) := fun W hW => (TK.out.keep hW).put L
        clear okx ho
        generalize (E k).f = x at *
        generalize (E k).t = y at *
        generalize F k = p at *
        go_wp2_with fail
        refine (CD.out _ (bAlloc (Below.refl _ _) _)).mono ?_
        rintro r w3 ⟨rfl, hb⟩
        have B3 : Hid (Below wr.heap.size wr w3) := bTrans (bAlloc (Below.refl _ _) _) hb
        obtain ⟨h1, ⟨u0, h2⟩, h3⟩ := PT.out w3 B3.out
        have P3 : Hid (StrK w1 w1.heap.size n (k + 1) (w3.setCell ⟨w1.heap.size, k, none⟩ (.string p)) F) := h1
        clear hb CD h1 PT p0 p1
        go_wp2
        go_roundw
        case rel => exact ⟨k + 1, by omega, by go_num, P3.out⟩
        case measure => simp [intOf]; omega
      · obtain rfl : k = n := by omega
        have CJ : Hid (Calls Tryz.prog 18 #[.slice (some ⟨w1.heap.size, 0, none⟩) k k, .string ⟨#[32]⟩] wr fun e w' => e = .returned (.string R) ∧ Below wr.heap.size wr w') := by
          obtain ⟨A, h1, h2, h3, h4⟩ := TK.out
          refine JN.out wr w1.heap.size (fun j x hx => ?_) (lt_of_heapA h1)
          obtain ⟨hj, rfl⟩ := WX.out j x hx
          exact cell_at h1 (h3 j hj)
        go_wp2_with fail
        refine CJ.out.mono ?_
        rintro r w4 ⟨rfl, hb⟩
        have B4 : Hid (Below w.heap.size w w4) := bTrans BK.out hb
        clear hb CJ
        go_wp2
        go_ret
        exact ⟨rfl, B4.out⟩
end Go.Proofs.YtcaidhmolnnikaaGreatDoor
