/-
  Walks: the specification's draws of a text turned in one place (l8Dent), of a text (l8DrawText), DrawLex: only how long they may be.
-/
import Derived.Test.YtcaidhmolnnikaaGreatDoorDrawTx
import Derived.Test.YtcaidhmolnnikaaGreatDoorDrawZ
import Derived.Deep.RegionHeld3
namespace Go.Proofs.YtcaidhmolnnikaaGreatDoor
open Go.RowKit
set_option linter.unusedVariables false
set_option linter.unusedSimpArgs false
theorem Strs.but {g gl : Nat} {l : List ByteArray} {w w' : World} (h : Strs gl l w) (hb : But g w w') (hgl : gl < w.heap.size) (hne : gl ≠ g) : Strs gl l w' := fun k hk => by
  rw [hb.cell (p := ⟨gl, k, none⟩) hgl hne]; exact h k hk
theorem Strs.heap {gl : Nat} {l : List ByteArray} {w w' : World} (h : Strs gl l w) (e : w'.heap = w.heap) : Strs gl l w' := fun k hk => by
  have := h k hk
  unfold World.cell? at this ⊢
  rw [e]
  exact this
theorem dmin_spec (a b : Int) (w : World) : Calls Tryz.prog 46 #[.int .i64 a, .int .i64 b] w fun e w' => e = .returned (.int .i64 (if a < b then a else b)) ∧ w' = w := by
  by_cases h : a < b
  · rw [if_pos h]
    go_enter Tryz.func46, Tryz.ntmps46
    go_wp2
    go_ret
    exact ⟨rfl, rfl⟩
  · rw [if_neg h]
    go_enter Tryz.func46, Tryz.ntmps46
    go_wp2
    go_ret
    exact ⟨rfl, rfl⟩
set_option maxRecDepth 20000 in
set_option maxHeartbeats 4000000 in
theorem dent_spec {B g gl : Nat} {w : World} {l : List ByteArray} (hd : DrawOk B g w) (s : ByteArray) (hs : s.size ≤ 1000000) (K : Nat) (hK : ∀ x ∈ l, x.size ≤ K) (hK2 : K ≤ 100) (n : Nat) (n0 : 0 < n) (n1 : n ≤ 256) (hne : gl ≠ g) (hgl : gl < w.heap.size) (hl : Strs gl l w) (hn : l.length = n) :
    Calls Tryz.prog 32 #[.pointer (some ⟨g, 0, none⟩), .string s, .slice (some ⟨gl, 0, none⟩) n n] w fun e w' => TxP B g (s.size + K) w e w' := by
  have HD0 : Hid (DrawOk B g w) := hd
  have HL : Hid (Strs gl l w) := hl
  have HN : Hid (l.length = n) := hn
  have HK : Hid (∀ x ∈ l, x.size ≤ K) := hK
  have ex : ∀ b : Nat, b ≤ s.size → (s.extract 0 b).size = b ∧ (s.extract b s.size).size = s.size - b := fun b hb => ⟨by rw [ByteArray.size_extract]; omega, by rw [ByteArray.size_extract]; omega⟩
  have EX : Hid (∀ b : Nat, b ≤ s.size → (s.extract 0 b).size = b ∧ (s.extract b s.size).size = s.size - b) := ex
  clear hd hl hn hK ex
  go_enter Tryz.func32, Tryz.ntmps32
  go_wp2_with fail
  refine (below_any HD0.out ((s.size : Int) + 1) (by omega)).mono ?_
  rintro e w1 ⟨x, x1, x2, rfl, hb, hd⟩
  have HB1 : Hid (But g w w1) := hb
  have HD1 : Hid (DrawOk B g w1) := hd
  clear hb hd
  obtain ⟨q, rfl⟩ := Int.eq_ofNat_of_zero_le x1
  have hq : q ≤ s.size := by omega
  go_wp2_with fail
  refine (below_small HD1.out 3 (by decide) (by decide)).mono ?_
  rintro e w2 ⟨y, y1, y2, rfl, hb, hd⟩
  have HB2 : Hid (But g w w2) := HB1.out.trans hb
  have HD2 : Hid (DrawOk B g w2) := hd
  clear hb hd
  have hwr : IntKind.i64.wrap ((q : Int) + 1) = (q : Int) + 1 := by rw [IntKind.wrap_i64]; omega
  have PK : Hid (∀ W : World, W.heap = w2.heap → Calls Tryz.prog 49 #[.pointer (some ⟨g, 0, none⟩), .slice (some ⟨gl, 0, none⟩) n n] W fun e w' => TxP B g K W e w') := fun W hW => by
    have h1 : Strs gl l W := (HL.out.but HB2.out hgl hne).heap hW
    have h2 : DrawOk B g W := by
      have := HD2.out
      unfold DrawOk Src World.cell? at this ⊢
      rw [hW]
      exact this
    exact pickS_spec K HK.out h2 n n n0 n1 hne (by rw [hW]; exact Nat.lt_of_lt_of_le hgl HB2.out.size) h1 HN.out
  by_cases q0 : y = 0
  · subst q0
    go_wp2
    go_ret
    exact ⟨_, rfl, by have := EX.out q hq; omega, HB2.out, HD2.out⟩
  by_cases q1 : y = 1
  · subst q1
    obtain ⟨m, hm, hm2⟩ : ∃ m : Nat, (if (q : Int) + 1 < (s.size : Int) then (q : Int) + 1 else (s.size : Int)) = (m : Int) ∧ (m ≤ s.size ∧ q ≤ m) := by
      by_cases h : (q : Int) + 1 < (s.size : Int)
      · exact ⟨q + 1, by rw [if_pos h]; omega, by omega, by omega⟩
      · exact ⟨s.size, by rw [if_neg h], by omega, by omega⟩
    obtain ⟨m1, m2⟩ := hm2
    have CM : Hid (∀ W, Calls Tryz.prog 46 #[.int .i64 ((q : Int) + 1), .int .i64 (s.size : Int)] W fun e w' => e = .returned (.int .i64 (m : Int)) ∧ w' = W) := fun W => by
      have := dmin_spec ((q : Int) + 1) (s.size : Int) W
      rw [hm] at this
      exact this
    clear hm
    go_wp2
    go_region_held3 (fun w' => True) (exact trivial) (first
      | (go_at_call 49; refine (PK.out w2.drew rfl).mono ?_; rintro r w3 ⟨t, rfl, ht, hb, hd⟩; have HB3 : Hid (But g w w3) := (HB2.out.trans (⟨rfl, rfl, rfl, Nat.le_refl _, fun _ _ _ => rfl⟩ : But g w2 w2.drew)).trans hb; have HD3 : Hid (DrawOk B g w3) := hd; have c1 : ¬ 9223372036854775807 < (s.extract 0 q).size + t.size := (by have := EX.out q hq; omega); have d1 : ¬ 9223372036854775807 < min q s.size - 0 + t.size := (by omega); have d2 : ¬ 9223372036854775807 < min q s.size + t.size := (by omega); have d3 : ¬ 9223372036854775807 < q + t.size := (by omega); have f1 : ¬ 9223372036854775807 < (s.extract 0 q).size + t.size + (s.extract m s.size).size := (by have := EX.out q hq; have := EX.out m m1; omega); have f2 : ¬ 9223372036854775807 < (s.extract 0 q).size + t.size + (s.size - m) := (by have := EX.out q hq; have := EX.out m m1; omega); have f3 : ¬ 9223372036854775807 < min q s.size + t.size + (s.extract m s.size).size := (by have := EX.out q hq; have := EX.out m m1; omega); have f4 : ¬ 9223372036854775807 < min q s.size + t.size + (s.size - m) := (by have := EX.out q hq; have := EX.out m m1; omega); have f5 : ¬ 9223372036854775807 < q + t.size + (s.extract m s.size).size := (by have := EX.out q hq; have := EX.out m m1; omega); have f6 : ¬ 9223372036854775807 < q + t.size + (s.size - m) := (by have := EX.out q hq; have := EX.out m m1; omega); have c3 : ¬ 9223372036854775807 < (s.extract 0 q).size + t.size + (s.extract m s.size).size := (by have := EX.out q hq; have := EX.out m m1; omega); have c2 : ¬ 9223372036854775807 < (s.extract 0 q ++ t).size + (s.extract m s.size).size := (by have := EX.out q hq; have := EX.out m m1; rw [str_len]; omega); clear hb hd)
      | (go_at_call 46; refine (CM.out _).mono ?_; rintro r w4 ⟨rfl, hw4⟩; subst hw4))
    all_goals
      go_wp2
      go_ret
      exact ⟨_, rfl, by have := EX.out q hq; have := EX.out m m1; rw [str_len, str_len]; omega, HB3.out, HD3.out⟩
  · obtain rfl : y = 2 := by omega
    go_wp2
    go_region_held3 (fun w' => True) (exact trivial) ((go_at_call 49; refine (PK.out w2.drew rfl).mono ?_; rintro r w3 ⟨t, rfl, ht, hb, hd⟩; have HB3 : Hid (But g w w3) := (HB2.out.trans (⟨rfl, rfl, rfl, Nat.le_refl _, fun _ _ _ => rfl⟩ : But g w2 w2.drew)).trans hb; have HD3 : Hid (DrawOk B g w3) := hd; have c1 : ¬ 9223372036854775807 < (s.extract 0 q).size + t.size := (by have := EX.out q hq; omega); have d1 : ¬ 9223372036854775807 < min q s.size - 0 + t.size := (by omega); have d2 : ¬ 9223372036854775807 < min q s.size + t.size := (by omega); have d3 : ¬ 9223372036854775807 < q + t.size := (by omega); have f1 : ¬ 9223372036854775807 < (s.extract 0 q).size + t.size + (s.extract q s.size).size := (by have := EX.out q hq; have := EX.out q hq; omega); have f2 : ¬ 9223372036854775807 < (s.extract 0 q).size + t.size + (s.size - q) := (by have := EX.out q hq; have := EX.out q hq; omega); have f3 : ¬ 9223372036854775807 < min q s.size + t.size + (s.extract q s.size).size := (by have := EX.out q hq; have := EX.out q hq; omega); have f4 : ¬ 9223372036854775807 < min q s.size + t.size + (s.size - q) := (by have := EX.out q hq; have := EX.out q hq; omega); have f5 : ¬ 9223372036854775807 < q + t.size + (s.extract q s.size).size := (by have := EX.out q hq; have := EX.out q hq; omega); have f6 : ¬ 9223372036854775807 < q + t.size + (s.size - q) := (by have := EX.out q hq; have := EX.out q hq; omega); have c3 : ¬ 9223372036854775807 < (s.extract 0 q).size + t.size + (s.extract q s.size).size := (by have := EX.out q hq; have := EX.out q hq; omega); have c2 : ¬ 9223372036854775807 < (s.extract 0 q ++ t).size + (s.extract q s.size).size := (by have := EX.out q hq; have := EX.out q hq; rw [str_len]; omega); clear hb hd))
    all_goals
      go_wp2
      go_ret
      exact ⟨_, rfl, by have := EX.out q hq; have := EX.out q hq; rw [str_len, str_len]; omega, HB3.out, HD3.out⟩
-- TEXT
set_option maxRecDepth 20000 in
set_option maxHeartbeats 4000000 in
/-- l8DrawText. -/
theorem text_draw {B g : Nat} {w : World} (hd : DrawOk B g w) :
    Calls Tryz.prog 14 #[.pointer (some ⟨g, 0, none⟩)] w fun e w' => TxP B g 25613 w e w' := by
  have HB0 : Hid (But g w w) := But.refl g w
  have HD0 : Hid (DrawOk B g w) := hd
  clear hd
  have LN : Hid (∀ W, DrawOk B g W → Calls Tryz.prog 31 #[.pointer (some ⟨g, 0, none⟩), .int .i64 4] W fun e w' => TxP B g 25600 W e w') := fun W h => (deep_spec 4 (by decide)).1 W h
  go_enter Tryz.func14, Tryz.ntmps14
  go_wp2_with fail
  refine (LN.out _ HD0.out).mono ?_
  rintro e w1 ⟨s, rfl, hs, hb, hd⟩
  have HB1 : Hid (But g w w1) := HB0.out.trans hb
  have HD1 : Hid (DrawOk B g w1) := hd
  clear hb hd
  go_wp2_with fail
  refine (once_spec HD1.out 3 (by decide) (by decide)).mono ?_
  rintro e w2 ⟨b, rfl, hb, hd⟩
  have HB2 : Hid (But g w w2) := HB1.out.trans hb
  have HD2 : Hid (DrawOk B g w2) := hd
  clear hb hd
  cases b
  · skip
    go_wp2
    go_ret
    exact ⟨_, rfl, by (try simp only [str_len, lit1, lit2, lit3]); omega, HB2.out, HD2.out⟩
  · skip
    go_wp2_with fail
    refine (dent_spec (gl := w2.heap.size) (HD2.out.alloc _) s (by omega) 13 (by decide) (by decide) 15 (by decide) (by decide) (Nat.ne_of_gt HD2.out.lt) (by simp) (strs_alloc w2 [(⟨#[43]⟩ : ByteArray), (⟨#[45]⟩ : ByteArray), (⟨#[47]⟩ : ByteArray), (⟨#[40]⟩ : ByteArray), (⟨#[41]⟩ : ByteArray), (⟨#[58]⟩ : ByteArray), (⟨#[65]⟩ : ByteArray), (⟨#[53]⟩ : ByteArray), (⟨#[32]⟩ : ByteArray), (⟨#[95]⟩ : ByteArray), (⟨#[111]⟩ : ByteArray), (⟨#[46]⟩ : ByteArray), (⟨#[120]⟩ : ByteArray), (⟨#[35]⟩ : ByteArray), (⟨#[49, 48, 48, 48, 48, 48, 48, 48, 48, 48, 48, 48, 49]⟩ : ByteArray)] _) rfl).mono ?_
    rintro e w3 ⟨t, rfl, ht, hb, hd⟩
    have HB3 : Hid (But g w w3) := (HB2.out.alloc _).trans hb
    have HD3 : Hid (DrawOk B g w3) := hd
    clear hb hd
    go_wp2
    go_ret
    exact ⟨_, rfl, by (try simp only [str_len, lit1, lit2, lit3]); omega, HB3.out, HD3.out⟩
def strSz : Value → Nat
  | .string s => s.size
  | _ => 0
set_option maxRecDepth 20000 in
set_option maxHeartbeats 4000000 in
/-- DrawLex. -/
theorem drawLex_spec {w : World} {a : Option Addr} {len cap : Nat} (hs : Src w.heap.size w a len) (hb20 : len ≤ 1048576) :
    Calls Tryz.prog 11 #[.slice a len cap] w fun e w' => ∃ s : ByteArray, e = .returned (.string s) ∧ s.size ≤ 30000 ∧ Below w.heap.size w w' := by
  have HS : Hid (Src w.heap.size w a len) := hs
  clear hs
  go_enter Tryz.func11, Tryz.ntmps11
  go_wp2_with fail
  refine (new_spec HS.out hb20).mono ?_
  rintro e w1 ⟨g, rfl, hb, hd⟩
  have HW : Hid (Below w.heap.size w w1) := hb
  have HD1 : Hid (DrawOk w.heap.size g w1) := hd
  have EN : Hid (∀ W, But g w1 W → Below w.heap.size w W) := fun W h => HW.out.trans (h.below HD1.out.1 HW.out.size)
  clear hb hd
  go_wp2_with fail
  refine (text_draw HD1.out).mono ?_
  rintro e w2 ⟨s0, rfl, hs0, hb, hd⟩
  have HB2 : Hid (But g w1 w2) := hb
  have HD2 : Hid (DrawOk w.heap.size g w2) := hd
  clear hb hd
  go_wp2_with fail
  refine (once_spec HD2.out 40 (by decide) (by decide)).mono ?_
  rintro e w3 ⟨b, rfl, hb, hd⟩
  have HB3 : Hid (But g w1 w3) := HB2.out.trans hb
  have HD3 : Hid (DrawOk w.heap.size g w3) := hd
  clear hb hd
  cases b
  · go_wp2
    go_ret
    exact ⟨_, rfl, by omega, EN.out _ HB3.out⟩
  · go_wp2
    go_loopw [4] (fun o wr => ∃ s : ByteArray, o = .string s ∧ s.size ≤ 301 ∧ But g w1 wr ∧ DrawOk w.heap.size g wr) (fun o _ => 302 - strSz o)
    case atStart => exact ⟨⟨#[]⟩, rfl, by decide, HB3.out, HD3.out⟩
    case round =>
      obtain ⟨s, rfl, hs, hb, hd⟩ := hrel
      have HBr : Hid (But g w1 wr) := hb
      have HDr : Hid (DrawOk w.heap.size g wr) := hd
      clear hb hd HB3 HD3
      go_wp2_with fail
      refine (below_small HDr.out 2 (by decide) (by decide)).mono ?_
      rintro e w4 ⟨x, x1, x2, rfl, hb, hd⟩
      have HB4 : Hid (But g w1 w4) := HBr.out.trans hb
      have HD4 : Hid (DrawOk w.heap.size g w4) := hd
      clear hb hd
      by_cases hlt : (s.size : Int) < 300 + x
      · go_wp2
        go_roundw
        case rel => exact ⟨_, rfl, by (try simp only [str_len, lit1]); omega, HB4.out, HD4.out⟩
        case measure => simp only [strSz, str_len, lit1]; omega
      · go_wp2
        go_ret
        exact ⟨_, rfl, by omega, EN.out _ HB4.out⟩
end Go.Proofs.YtcaidhmolnnikaaGreatDoor
