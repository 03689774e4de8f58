/-
  Walks: the specification's draws of a function's text, of an operand's, of a line's: only how long they may be.
-/
import Derived.Test.YtnebjnglcfebeaaDoorDrawZ
import Derived.Test.YtnebjnglcfebeaaDoorDigS
namespace Go.Proofs.YtnebjnglcfebeaaDoor
open Go.RowKit
set_option linter.unusedVariables false
set_option linter.unusedSimpArgs false
theorem lit1 (a : UInt8) : (⟨#[a]⟩ : ByteArray).size = 1 := rfl
theorem lit2 (a b : UInt8) : (⟨#[a, b]⟩ : ByteArray).size = 2 := rfl
theorem lit3 (a b c : UInt8) : (⟨#[a, b, c]⟩ : ByteArray).size = 3 := rfl
theorem But.ofB {g : Nat} {a w : World} (h : Below a.heap.size a w) : But g a w := ⟨h.os, h.tape, h.output, h.size, fun k hk _ => h.block k hk⟩
/-- A list of texts that the call itself made. -/
def Strs (gl : Nat) (l : List ByteArray) (w : World) : Prop := ∀ k, k < l.length → w.cell? ⟨gl, k, none⟩ = some (.string (l.getD k ⟨#[]⟩))
theorem strs_alloc (w : World) (l : List ByteArray) (t : TypeId) : Strs w.heap.size l (w.alloc (.cells (l.map Value.string).toArray t)) := by
  intro k hk
  rw [World.cell?_alloc_at _ _ _ _ rfl]
  simp [hk]
/-- What a draw of a text answers. -/
def TxP (B g K : Nat) (w : World) (e : Ending) (w' : World) : Prop := ∃ s : ByteArray, e = .returned (.string s) ∧ s.size ≤ K ∧ But g w w' ∧ DrawOk B g w'
set_option maxHeartbeats 1000000 in
theorem pickS_spec {B g gl : Nat} {w : World} {l : List ByteArray} (K : Nat) (hK : ∀ x ∈ l, x.size ≤ K) (hd : DrawOk B g w) (n cap : Nat) (n0 : 0 < n) (n1 : n ≤ 256) (hne : gl ≠ g) (hgl : gl < w.heap.size) (hl : Strs gl l w) (hn : l.length = n) :
    Calls Tryd.prog 72 #[.pointer (some ⟨g, 0, none⟩), .slice (some ⟨gl, 0, none⟩) n cap] w fun e w' => TxP B g K w e w' := by
  have HD : Hid (DrawOk B g w) := hd
  have HL : Hid (Strs gl l w) := hl
  have HE : Hid (l.length = n) := hn
  have HK : Hid (∀ x ∈ l, x.size ≤ K) := hK
  clear hd hl hn hK
  go_enter Tryd.func72, Tryd.ntmps72
  go_wp2_with fail
  refine (below_small HD.out n (by omega) (by omega)).mono ?_
  rintro e w' ⟨x, x1, x2, rfl, hb, hd'⟩
  obtain ⟨k, rfl⟩ := Int.eq_ofNat_of_zero_le x1
  have kl : k < l.length := by have := HE.out; omega
  have hz := HL.out k kl
  have HM : Hid ((l.getD k ⟨#[]⟩).size ≤ K) := by
    apply HK.out
    simp [kl]
  generalize l.getD k ⟨#[]⟩ = z at hz HM
  clear kl
  have hz' : w'.cell? ⟨gl, k, none⟩ = some (.string z) := by rw [hb.cell (p := ⟨gl, k, none⟩) hgl hne]; exact hz
  have HB : Hid (But g w w') := hb
  have HD' : Hid (DrawOk B g w') := hd'
  clear hb hd' hz
  go_wp2
  go_ret
  exact ⟨_, rfl, HM.out, HB.out, HD'.out⟩
set_option maxHeartbeats 1000000 in
set_option maxRecDepth 20000 in
theorem numOkD_spec {B g : Nat} {w : World} (hd : DrawOk B g w) :
    Calls Tryd.prog 79 #[.pointer (some ⟨g, 0, none⟩)] w fun e w' => ∃ x : Int, ok x = true ∧ e = .returned (.int .i64 x) ∧ But g w w' ∧ DrawOk B g w' := by
  have HD : Hid (DrawOk B g w) := hd
  clear hd
  go_enter Tryd.func79, Tryd.ntmps79
  have HB0 : Hid (But g w w) := But.refl g w
  have HD0 : Hid (DrawOk B g w) := HD.out
  go_wp2_with fail
  refine (once_spec HD0.out 12 (by decide) (by decide)).mono ?_
  rintro e w1 ⟨b, rfl, hb, hd⟩
  have HB1 : Hid (But g w w1) := HB0.out.trans hb
  have HD1 : Hid (DrawOk B g w1) := hd
  clear hb hd
  cases b
  · go_wp2_with fail
    refine (below_small HD1.out 20 (by decide) (by decide)).mono ?_
    rintro e w2 ⟨x, x1, x2, rfl, hb2, hd2⟩
    have HB2 : Hid (But g _ w2) := hb2
    have HD2 : Hid (DrawOk B g w2) := hd2
    clear hb2 hd2
    go_wp2
    go_ret
    exact ⟨_, by unfold ok; simp; omega, rfl, HB1.out.trans HB2.out, HD2.out⟩
  · go_wp2_with fail
    refine (pick_spec (B := B) (g := g) (gl := w1.heap.size) (HD1.out.alloc _) 7 7 (by decide) (by decide) (Nat.ne_of_gt HD1.out.lt) (by simp) (nums_alloc w1 [1000000000000, (-1000000000000 : Int), 999999999999, 1000000, (-1000000 : Int), 1000001, 999999999999] _) rfl).mono ?_
    rintro e w2 ⟨x, rfl, hb2, hd2, hm⟩
    have HB2 : Hid (But g _ w2) := hb2
    have HD2 : Hid (DrawOk B g w2) := hd2
    have HM : Hid (ok x = true) := by
      show ok x = true
      simp only [List.mem_cons, List.not_mem_nil, or_false] at hm
      unfold ok
      simp
      omega
    clear hb2 hd2 hm
    go_wp2
    go_ret
    exact ⟨_, HM.out, rfl, (HB1.out.alloc _).trans HB2.out, HD2.out⟩
set_option maxRecDepth 20000 in
set_option maxHeartbeats 4000000 in
theorem funT_spec {B g : Nat} {w : World} (hd : DrawOk B g w) :
    Calls Tryd.prog 73 #[.pointer (some ⟨g, 0, none⟩), .bool true] w fun e w' => TxP B g 8 w e w' := by
  have HB0 : Hid (But g w w) := But.refl g w
  have HD0 : Hid (DrawOk B g w) := hd
  clear hd
  go_enter Tryd.func73, Tryd.ntmps73
  go_wp2_with fail
  refine (pickS_spec (B := B) (g := g) (gl := w.heap.size) 1 (by decide) (HD0.out.alloc _) 10 10 (by decide) (by decide) (Nat.ne_of_gt HD0.out.lt) (by simp) (strs_alloc w [(⟨#[43]⟩ : ByteArray), (⟨#[45]⟩ : ByteArray), (⟨#[42]⟩ : ByteArray), (⟨#[37]⟩ : ByteArray), (⟨#[124]⟩ : ByteArray), (⟨#[38]⟩ : ByteArray), (⟨#[94]⟩ : ByteArray), (⟨#[61]⟩ : ByteArray), (⟨#[60]⟩ : ByteArray), (⟨#[62]⟩ : ByteArray)] _) rfl).mono ?_
  rintro e w1 ⟨s, rfl, hs, hb, hd⟩
  have HB1 : Hid (But g w w1) := (HB0.out.alloc _).trans hb
  have HD1 : Hid (DrawOk B g w1) := hd
  clear hb hd
  go_wp2_with fail
  refine (once_spec HD1.out 6 (by decide) (by decide)).mono ?_
  rintro e w2 ⟨b1, rfl, hb, hd⟩
  have HB2 : Hid (But g w w2) := HB1.out.trans hb
  have HD2 : Hid (DrawOk B g w2) := hd
  clear hb hd
  cases b1
  · skip
    go_wp2_with fail
    refine (once_spec HD2.out 7 (by decide) (by decide)).mono ?_
    rintro e w3 ⟨b2, rfl, hb, hd⟩
    have HB3 : Hid (But g w w3) := HB2.out.trans hb
    have HD3 : Hid (DrawOk B g w3) := hd
    clear hb hd
    cases b2
    · skip
      go_wp2_with fail
      refine (once_spec HD3.out 2 (by decide) (by decide)).mono ?_
      rintro e w4 ⟨b3, rfl, hb, hd⟩
      have HB4 : Hid (But g w w4) := HB3.out.trans hb
      have HD4 : Hid (DrawOk B g w4) := hd
      clear hb hd
      cases b3
      · skip
        go_wp2_with fail
        refine (pickS_spec (B := B) (g := g) (gl := w4.heap.size) 1 (by decide) (HD4.out.alloc _) 9 9 (by decide) (by decide) (Nat.ne_of_gt HD4.out.lt) (by simp) (strs_alloc w4 [(⟨#[35]⟩ : ByteArray), (⟨#[44]⟩ : ByteArray), (⟨#[116]⟩ : ByteArray), (⟨#[100]⟩ : ByteArray), (⟨#[114]⟩ : ByteArray), (⟨#[64]⟩ : ByteArray), (⟨#[63]⟩ : ByteArray), (⟨#[36]⟩ : ByteArray), (⟨#[101]⟩ : ByteArray)] _) rfl).mono ?_
        rintro e w5 ⟨t, rfl, ht, hb, hd⟩
        have HB5 : Hid (But g w w5) := (HB4.out.alloc _).trans hb
        have HD5 : Hid (DrawOk B g w5) := hd
        clear hb hd
        go_wp2
        go_ret
        exact ⟨_, rfl, by (try simp only [str_len, lit1, lit2, lit3]); omega, HB5.out, HD5.out⟩
      · skip
        go_wp2
        go_ret
        exact ⟨_, rfl, by (try simp only [str_len, lit1, lit2, lit3]); omega, HB4.out, HD4.out⟩
    · skip
      go_wp2_with fail
      refine (pickS_spec (B := B) (g := g) (gl := w3.heap.size) 1 (by decide) (HD3.out.alloc _) 6 6 (by decide) (by decide) (Nat.ne_of_gt HD3.out.lt) (by simp) (strs_alloc w3 [(⟨#[43]⟩ : ByteArray), (⟨#[45]⟩ : ByteArray), (⟨#[42]⟩ : ByteArray), (⟨#[38]⟩ : ByteArray), (⟨#[94]⟩ : ByteArray), (⟨#[61]⟩ : ByteArray)] _) rfl).mono ?_
      rintro e w4 ⟨t, rfl, ht, hb, hd⟩
      have HB4 : Hid (But g w w4) := (HB3.out.alloc _).trans hb
      have HD4 : Hid (DrawOk B g w4) := hd
      clear hb hd
      go_wp2
      go_ret
      exact ⟨_, rfl, by (try simp only [str_len, lit1, lit2, lit3]); omega, HB4.out, HD4.out⟩
  · skip
    go_wp2
    go_ret
    exact ⟨_, rfl, by (try simp only [str_len, lit1, lit2, lit3]); omega, HB2.out, HD2.out⟩
set_option maxRecDepth 20000 in
set_option maxHeartbeats 4000000 in
theorem funF_spec {B g : Nat} {w : World} (hd : DrawOk B g w) :
    Calls Tryd.prog 73 #[.pointer (some ⟨g, 0, none⟩), .bool false] w fun e w' => TxP B g 8 w e w' := by
  have HB0 : Hid (But g w w) := But.refl g w
  have HD0 : Hid (DrawOk B g w) := hd
  clear hd
  go_enter Tryd.func73, Tryd.ntmps73
  go_wp2_with fail
  refine (pickS_spec (B := B) (g := g) (gl := w.heap.size) 1 (by decide) (HD0.out.alloc _) 10 10 (by decide) (by decide) (Nat.ne_of_gt HD0.out.lt) (by simp) (strs_alloc w [(⟨#[43]⟩ : ByteArray), (⟨#[45]⟩ : ByteArray), (⟨#[42]⟩ : ByteArray), (⟨#[37]⟩ : ByteArray), (⟨#[124]⟩ : ByteArray), (⟨#[38]⟩ : ByteArray), (⟨#[94]⟩ : ByteArray), (⟨#[61]⟩ : ByteArray), (⟨#[60]⟩ : ByteArray), (⟨#[62]⟩ : ByteArray)] _) rfl).mono ?_
  rintro e w1 ⟨s, rfl, hs, hb, hd⟩
  have HB1 : Hid (But g w w1) := (HB0.out.alloc _).trans hb
  have HD1 : Hid (DrawOk B g w1) := hd
  clear hb hd
  go_wp2_with fail
  refine (once_spec HD1.out 4 (by decide) (by decide)).mono ?_
  rintro e w2 ⟨b1, rfl, hb, hd⟩
  have HB2 : Hid (But g w w2) := HB1.out.trans hb
  have HD2 : Hid (DrawOk B g w2) := hd
  clear hb hd
  cases b1
  · skip
    go_wp2_with fail
    refine (pickS_spec (B := B) (g := g) (gl := w2.heap.size) 1 (by decide) (HD2.out.alloc _) 11 11 (by decide) (by decide) (Nat.ne_of_gt HD2.out.lt) (by simp) (strs_alloc w2 [(⟨#[105]⟩ : ByteArray), (⟨#[35]⟩ : ByteArray), (⟨#[44]⟩ : ByteArray), (⟨#[114]⟩ : ByteArray), (⟨#[122]⟩ : ByteArray), (⟨#[103]⟩ : ByteArray), (⟨#[43]⟩ : ByteArray), (⟨#[45]⟩ : ByteArray), (⟨#[42]⟩ : ByteArray), (⟨#[124]⟩ : ByteArray), (⟨#[126]⟩ : ByteArray)] _) rfl).mono ?_
    rintro e w3 ⟨t, rfl, ht, hb, hd⟩
    have HB3 : Hid (But g w w3) := (HB2.out.alloc _).trans hb
    have HD3 : Hid (DrawOk B g w3) := hd
    clear hb hd
    go_wp2
    go_ret
    exact ⟨_, rfl, by (try simp only [str_len, lit1, lit2, lit3]); omega, HB3.out, HD3.out⟩
  · skip
    go_wp2_with fail
    refine (pickS_spec (B := B) (g := g) (gl := w2.heap.size) 1 (by decide) (HD2.out.alloc _) 2 2 (by decide) (by decide) (Nat.ne_of_gt HD2.out.lt) (by simp) (strs_alloc w2 [(⟨#[47]⟩ : ByteArray), (⟨#[92]⟩ : ByteArray)] _) rfl).mono ?_
    rintro e w3 ⟨t, rfl, ht, hb, hd⟩
    have HB3 : Hid (But g w w3) := (HB2.out.alloc _).trans hb
    have HD3 : Hid (DrawOk B g w3) := hd
    clear hb hd
    go_wp2
    go_ret
    exact ⟨_, rfl, by (try simp only [str_len, lit1, lit2, lit3]); omega, HB3.out, HD3.out⟩
set_option maxRecDepth 20000 in
set_option maxHeartbeats 4000000 in
theorem operand0_spec {B g : Nat} {w : World} (hd : DrawOk B g w) :
    Calls Tryd.prog 71 #[.pointer (some ⟨g, 0, none⟩), .int .i64 0] w fun e w' => TxP B g 100 w e w' := by
  have HB0 : Hid (But g w w) := But.refl g w
  have HD0 : Hid (DrawOk B g w) := hd
  clear hd
  go_enter Tryd.func71, Tryd.ntmps71
  go_wp2_with fail
  refine (once_spec HD0.out 3 (by decide) (by decide)).mono ?_
  rintro e w1 ⟨b3, rfl, hb, hd⟩
  have HB1 : Hid (But g w w1) := HB0.out.trans hb
  have HD1 : Hid (DrawOk B g w1) := hd
  clear hb hd
  cases b3
  · skip
    go_wp2_with fail
    refine (numOkD_spec HD1.out).mono ?_
    rintro e w2 ⟨x, hx, rfl, hb, hd⟩
    have HB2 : Hid (But g w w2) := HB1.out.trans hb
    have HD2 : Hid (DrawOk B g w2) := hd
    clear hb hd
    go_wp2_with fail
    refine (l8Digits_spec hx _).mono ?_
    rintro e w3 ⟨rfl, hb⟩
    have HB3 : Hid (But g w w3) := HB2.out.trans (But.ofB hb)
    have HD3 : Hid (DrawOk B g w3) := HD2.out.keep (hb.mono HD2.out.2.1) (hb.block g HD2.out.lt)
    have ds3 := digB_size hx
    clear hb
    generalize digB x = s0 at *
    clear hx
    go_wp2
    go_loopw [5, 6] (fun o i wr => ∃ (k : Nat) (s : ByteArray), k ≤ 3 ∧ i = .int .i64 (k : Int) ∧ o = .string s ∧ s.size ≤ 22 + 23 * k ∧ But g w wr ∧ DrawOk B g wr) (fun _ i _ => 4 - (intOf i).toNat)
    case atStart => exact ⟨0, s0, by omega, rfl, rfl, by omega, HB3.out, HD3.out⟩
    case round =>
      obtain ⟨k, s, hk, rfl, rfl, hs, hb, hd⟩ := hrel
      have HBr : Hid (But g w wr) := hb
      have HDr : Hid (DrawOk B g wr) := hd
      clear hb hd HB3 HD3
      go_wp2_with fail
      refine (below_small HDr.out 4 (by decide) (by decide)).mono ?_
      rintro e w11 ⟨x4, x41, x42, rfl, hb, hd⟩
      have HB11 : Hid (But g w w11) := HBr.out.trans hb
      have HD11 : Hid (DrawOk B g w11) := hd
      clear hb hd
      by_cases hlt : (k : Int) < x4
      · skip
        go_wp2_with fail
        refine (below_small HD11.out 9 (by decide) (by decide)).mono ?_
        rintro e w12 ⟨y, y1, y2, rfl, hb, hd⟩
        have HB12 : Hid (But g w w12) := HB11.out.trans hb
        have HD12 : Hid (DrawOk B g w12) := hd
        clear hb hd
        have hy : ok (y - 2) = true := by unfold ok; simp; omega
        go_wp2_with fail
        refine (l8Digits_spec hy _).mono ?_
        rintro e w13 ⟨rfl, hb⟩
        have HB13 : Hid (But g w w13) := HB12.out.trans (But.ofB hb)
        have HD13 : Hid (DrawOk B g w13) := HD12.out.keep (hb.mono HD12.out.2.1) (hb.block g HD12.out.lt)
        have ds13 := digB_size hy
        clear hb
        generalize digB (y - 2) = s1 at *
        clear hy
        go_wp2
        go_roundw
        case rel => exact ⟨k + 1, _, by omega, by go_num, rfl, by (try simp only [str_len, lit1]); omega, HB13.out, HD13.out⟩
        case measure => simp [intOf]; omega
      · skip
        go_wp2_with fail
        refine (once_spec HD11.out 4 (by decide) (by decide)).mono ?_
        rintro e w12 ⟨b4, rfl, hb, hd⟩
        have HB12 : Hid (But g w w12) := HB11.out.trans hb
        have HD12 : Hid (DrawOk B g w12) := hd
        clear hb hd
        cases b4
        · skip
          go_wp2
          go_ret
          exact ⟨_, rfl, by (try simp only [str_len, lit1, lit2, lit3]); omega, HB12.out, HD12.out⟩
        · skip
          go_wp2_with fail
          refine (pickS_spec (B := B) (g := g) (gl := w12.heap.size) 3 (by decide) (HD12.out.alloc _) 6 6 (by decide) (by decide) (Nat.ne_of_gt HD12.out.lt) (by simp) (strs_alloc w12 [(⟨#[50]⟩ : ByteArray), (⟨#[51]⟩ : ByteArray), (⟨#[49]⟩ : ByteArray), (⟨#[48]⟩ : ByteArray), (⟨#[50, 32, 50]⟩ : ByteArray), (⟨#[50, 32, 51]⟩ : ByteArray)] _) rfl).mono ?_
          rintro e w13 ⟨t, rfl, ht, hb, hd⟩
          have HB13 : Hid (But g w w13) := (HB12.out.alloc _).trans hb
          have HD13 : Hid (DrawOk B g w13) := hd
          clear hb hd
          go_wp2
          go_ret
          exact ⟨_, rfl, by (try simp only [str_len, lit1, lit2, lit3]); omega, HB13.out, HD13.out⟩
  · skip
    go_wp2_with fail
    refine (pickS_spec (B := B) (g := g) (gl := w1.heap.size) 1 (by decide) (HD1.out.alloc _) 3 3 (by decide) (by decide) (Nat.ne_of_gt HD1.out.lt) (by simp) (strs_alloc w1 [(⟨#[65]⟩ : ByteArray), (⟨#[66]⟩ : ByteArray), (⟨#[67]⟩ : ByteArray)] _) rfl).mono ?_
    rintro e w2 ⟨t, rfl, ht, hb, hd⟩
    have HB2 : Hid (But g w w2) := (HB1.out.alloc _).trans hb
    have HD2 : Hid (DrawOk B g w2) := hd
    clear hb hd
    go_wp2
    go_ret
    exact ⟨_, rfl, by (try simp only [str_len, lit1, lit2, lit3]); omega, HB2.out, HD2.out⟩
set_option maxRecDepth 20000 in
set_option maxHeartbeats 4000000 in
theorem drawOperand_at {B g : Nat} {w : World} (hd : DrawOk B g w) (deep : Int) (M : Nat) (hM : 100 ≤ M) (hM2 : M ≤ 1000000) (d0 : 0 < deep) (d1 : deep ≤ 9) (HL : Hid (∀ W, DrawOk B g W → Calls Tryd.prog 50 #[.pointer (some ⟨g, 0, none⟩), .int .i64 (deep - 1)] W fun e w' => TxP B g M W e w')) :
    Calls Tryd.prog 71 #[.pointer (some ⟨g, 0, none⟩), .int .i64 deep] w fun e w' => TxP B g (4 * M) w e w' := by
  have HB0 : Hid (But g w w) := But.refl g w
  have HD0 : Hid (DrawOk B g w) := hd
  clear hd
  go_enter Tryd.func71, Tryd.ntmps71
  go_wp2_with fail
  refine (once_spec HD0.out 4 (by decide) (by decide)).mono ?_
  rintro e w1 ⟨b, rfl, hb, hd⟩
  have HB1 : Hid (But g w w1) := HB0.out.trans hb
  have HD1 : Hid (DrawOk B g w1) := hd
  clear hb hd
  cases b
  · skip
    go_wp2_with fail
    refine (once_spec HD1.out 3 (by decide) (by decide)).mono ?_
    rintro e w2 ⟨b3, rfl, hb, hd⟩
    have HB2 : Hid (But g w w2) := HB1.out.trans hb
    have HD2 : Hid (DrawOk B g w2) := hd
    clear hb hd
    cases b3
    · skip
      go_wp2_with fail
      refine (numOkD_spec HD2.out).mono ?_
      rintro e w3 ⟨x, hx, rfl, hb, hd⟩
      have HB3 : Hid (But g w w3) := HB2.out.trans hb
      have HD3 : Hid (DrawOk B g w3) := hd
      clear hb hd
      go_wp2_with fail
      refine (l8Digits_spec hx _).mono ?_
      rintro e w4 ⟨rfl, hb⟩
      have HB4 : Hid (But g w w4) := HB3.out.trans (But.ofB hb)
      have HD4 : Hid (DrawOk B g w4) := HD3.out.keep (hb.mono HD3.out.2.1) (hb.block g HD3.out.lt)
      have ds4 := digB_size hx
      clear hb
      generalize digB x = s0 at *
      clear hx
      go_wp2
      go_loopw [5, 6] (fun o i wr => ∃ (k : Nat) (s : ByteArray), k ≤ 3 ∧ i = .int .i64 (k : Int) ∧ o = .string s ∧ s.size ≤ 22 + 23 * k ∧ But g w wr ∧ DrawOk B g wr) (fun _ i _ => 4 - (intOf i).toNat)
      case atStart => exact ⟨0, s0, by omega, rfl, rfl, by omega, HB4.out, HD4.out⟩
      case round =>
        obtain ⟨k, s, hk, rfl, rfl, hs, hb, hd⟩ := hrel
        have HBr : Hid (But g w wr) := hb
        have HDr : Hid (DrawOk B g wr) := hd
        clear hb hd HB4 HD4
        go_wp2_with fail
        refine (below_small HDr.out 4 (by decide) (by decide)).mono ?_
        rintro e w11 ⟨x4, x41, x42, rfl, hb, hd⟩
        have HB11 : Hid (But g w w11) := HBr.out.trans hb
        have HD11 : Hid (DrawOk B g w11) := hd
        clear hb hd
        by_cases hlt : (k : Int) < x4
        · skip
          go_wp2_with fail
          refine (below_small HD11.out 9 (by decide) (by decide)).mono ?_
          rintro e w12 ⟨y, y1, y2, rfl, hb, hd⟩
          have HB12 : Hid (But g w w12) := HB11.out.trans hb
          have HD12 : Hid (DrawOk B g w12) := hd
          clear hb hd
          have hy : ok (y - 2) = true := by unfold ok; simp; omega
          go_wp2_with fail
          refine (l8Digits_spec hy _).mono ?_
          rintro e w13 ⟨rfl, hb⟩
          have HB13 : Hid (But g w w13) := HB12.out.trans (But.ofB hb)
          have HD13 : Hid (DrawOk B g w13) := HD12.out.keep (hb.mono HD12.out.2.1) (hb.block g HD12.out.lt)
          have ds13 := digB_size hy
          clear hb
          generalize digB (y - 2) = s1 at *
          clear hy
          go_wp2
          go_roundw
          case rel => exact ⟨k + 1, _, by omega, by go_num, rfl, by (try simp only [str_len, lit1]); omega, HB13.out, HD13.out⟩
          case measure => simp [intOf]; omega
        · skip
          go_wp2_with fail
          refine (once_spec HD11.out 4 (by decide) (by decide)).mono ?_
          rintro e w12 ⟨b4, rfl, hb, hd⟩
          have HB12 : Hid (But g w w12) := HB11.out.trans hb
          have HD12 : Hid (DrawOk B g w12) := hd
          clear hb hd
          cases b4
          · skip
            go_wp2
            go_ret
            exact ⟨_, rfl, by (try simp only [str_len, lit1, lit2, lit3]); omega, HB12.out, HD12.out⟩
          · skip
            go_wp2_with fail
            refine (pickS_spec (B := B) (g := g) (gl := w12.heap.size) 3 (by decide) (HD12.out.alloc _) 6 6 (by decide) (by decide) (Nat.ne_of_gt HD12.out.lt) (by simp) (strs_alloc w12 [(⟨#[50]⟩ : ByteArray), (⟨#[51]⟩ : ByteArray), (⟨#[49]⟩ : ByteArray), (⟨#[48]⟩ : ByteArray), (⟨#[50, 32, 50]⟩ : ByteArray), (⟨#[50, 32, 51]⟩ : ByteArray)] _) rfl).mono ?_
            rintro e w13 ⟨t, rfl, ht, hb, hd⟩
            have HB13 : Hid (But g w w13) := (HB12.out.alloc _).trans hb
            have HD13 : Hid (DrawOk B g w13) := hd
            clear hb hd
            go_wp2
            go_ret
            exact ⟨_, rfl, by (try simp only [str_len, lit1, lit2, lit3]); omega, HB13.out, HD13.out⟩
    · skip
      go_wp2_with fail
      refine (pickS_spec (B := B) (g := g) (gl := w2.heap.size) 1 (by decide) (HD2.out.alloc _) 3 3 (by decide) (by decide) (Nat.ne_of_gt HD2.out.lt) (by simp) (strs_alloc w2 [(⟨#[65]⟩ : ByteArray), (⟨#[66]⟩ : ByteArray), (⟨#[67]⟩ : ByteArray)] _) rfl).mono ?_
      rintro e w3 ⟨t, rfl, ht, hb, hd⟩
      have HB3 : Hid (But g w w3) := (HB2.out.alloc _).trans hb
      have HD3 : Hid (DrawOk B g w3) := hd
      clear hb hd
      go_wp2
      go_ret
      exact ⟨_, rfl, by (try simp only [str_len, lit1, lit2, lit3]); omega, HB3.out, HD3.out⟩
  · skip
    go_wp2_with fail
    refine (HL.out _ HD1.out).mono ?_
    rintro e w2 ⟨s, rfl, hs, hb, hd⟩
    have HB2 : Hid (But g w w2) := HB1.out.trans hb
    have HD2 : Hid (DrawOk B g w2) := hd
    clear hb hd
    go_wp2
    go_ret
    exact ⟨_, rfl, by (try simp only [str_len, lit1, lit2, lit3]); omega, HB2.out, HD2.out⟩
set_option maxRecDepth 20000 in
set_option maxHeartbeats 4000000 in
theorem line0_spec {B g : Nat} {w : World} (hd : DrawOk B g w) :
    Calls Tryd.prog 50 #[.pointer (some ⟨g, 0, none⟩), .int .i64 0] w fun e w' => TxP B g 100 w e w' := by
  have HB0 : Hid (But g w w) := But.refl g w
  have HD0 : Hid (DrawOk B g w) := hd
  clear hd
  go_enter Tryd.func50, Tryd.ntmps50
  go_wp2_with fail
  refine (operand0_spec HD0.out).mono ?_
  rintro e w1 ⟨s, rfl, hs, hb, hd⟩
  have HB1 : Hid (But g w w1) := HB0.out.trans hb
  have HD1 : Hid (DrawOk B g w1) := hd
  clear hb hd
  go_wp2
  go_ret
  exact ⟨_, rfl, by (try simp only [str_len, lit1, lit2, lit3]); omega, HB1.out, HD1.out⟩
set_option maxRecDepth 20000 in
set_option maxHeartbeats 4000000 in
theorem drawLine_at {B g : Nat} {w : World} (hd : DrawOk B g w) (deep : Int) (M : Nat) (hM : 100 ≤ M) (hM2 : M ≤ 1000000) (d0 : 0 < deep) (d1 : deep ≤ 9) (HL : Hid (∀ W, DrawOk B g W → Calls Tryd.prog 50 #[.pointer (some ⟨g, 0, none⟩), .int .i64 (deep - 1)] W fun e w' => TxP B g M W e w')) (HO : Hid (∀ W, DrawOk B g W → Calls Tryd.prog 71 #[.pointer (some ⟨g, 0, none⟩), .int .i64 (deep - 1)] W fun e w' => TxP B g M W e w')) :
    Calls Tryd.prog 50 #[.pointer (some ⟨g, 0, none⟩), .int .i64 deep] w fun e w' => TxP B g (4 * M) w e w' := by
  have HB0 : Hid (But g w w) := But.refl g w
  have HD0 : Hid (DrawOk B g w) := hd
  clear hd
  go_enter Tryd.func50, Tryd.ntmps50
  go_wp2_with fail
  refine (below_small HD0.out 8 (by decide) (by decide)).mono ?_
  rintro e w1 ⟨x, x1, x2, rfl, hb, hd⟩
  have HB1 : Hid (But g w w1) := HB0.out.trans hb
  have HD1 : Hid (DrawOk B g w1) := hd
  clear hb hd
  by_cases q0 : x = 0
  · subst q0
    go_wp2_with fail
    refine (pickS_spec (B := B) (g := g) (gl := w1.heap.size) 1 (by decide) (HD1.out.alloc _) 3 3 (by decide) (by decide) (Nat.ne_of_gt HD1.out.lt) (by simp) (strs_alloc w1 [(⟨#[65]⟩ : ByteArray), (⟨#[66]⟩ : ByteArray), (⟨#[67]⟩ : ByteArray)] _) rfl).mono ?_
    rintro e w2 ⟨t, rfl, ht, hb, hd⟩
    have HB2 : Hid (But g w w2) := (HB1.out.alloc _).trans hb
    have HD2 : Hid (DrawOk B g w2) := hd
    clear hb hd
    go_wp2_with fail
    refine (HL.out _ HD2.out).mono ?_
    rintro e w3 ⟨s, rfl, hs, hb, hd⟩
    have HB3 : Hid (But g w w3) := HB2.out.trans hb
    have HD3 : Hid (DrawOk B g w3) := hd
    clear hb hd
    go_wp2
    go_ret
    exact ⟨_, rfl, by (try simp only [str_len, lit1, lit2, lit3]); omega, HB3.out, HD3.out⟩
  by_cases q1 : x = 1
  · subst q1
    go_wp2_with fail
    refine (funF_spec HD1.out).mono ?_
    rintro e w2 ⟨t, rfl, ht, hb, hd⟩
    have HB2 : Hid (But g w w2) := HB1.out.trans hb
    have HD2 : Hid (DrawOk B g w2) := hd
    clear hb hd
    go_wp2_with fail
    refine (HL.out _ HD2.out).mono ?_
    rintro e w3 ⟨s, rfl, hs, hb, hd⟩
    have HB3 : Hid (But g w w3) := HB2.out.trans hb
    have HD3 : Hid (DrawOk B g w3) := hd
    clear hb hd
    go_wp2
    go_ret
    exact ⟨_, rfl, by (try simp only [str_len, lit1, lit2, lit3]); omega, HB3.out, HD3.out⟩
  by_cases q2 : x = 2
  · subst q2
    go_wp2_with fail
    refine (funF_spec HD1.out).mono ?_
    rintro e w2 ⟨t, rfl, ht, hb, hd⟩
    have HB2 : Hid (But g w w2) := HB1.out.trans hb
    have HD2 : Hid (DrawOk B g w2) := hd
    clear hb hd
    go_wp2_with fail
    refine (HL.out _ HD2.out).mono ?_
    rintro e w3 ⟨s, rfl, hs, hb, hd⟩
    have HB3 : Hid (But g w w3) := HB2.out.trans hb
    have HD3 : Hid (DrawOk B g w3) := hd
    clear hb hd
    go_wp2
    go_ret
    exact ⟨_, rfl, by (try simp only [str_len, lit1, lit2, lit3]); omega, HB3.out, HD3.out⟩
  by_cases q3 : x = 3
  · subst q3
    go_wp2_with fail
    refine (HO.out _ HD1.out).mono ?_
    rintro e w2 ⟨u, rfl, hu, hb, hd⟩
    have HB2 : Hid (But g w w2) := HB1.out.trans hb
    have HD2 : Hid (DrawOk B g w2) := hd
    clear hb hd
    go_wp2_with fail
    refine (funT_spec HD2.out).mono ?_
    rintro e w3 ⟨t, rfl, ht, hb, hd⟩
    have HB3 : Hid (But g w w3) := HB2.out.trans hb
    have HD3 : Hid (DrawOk B g w3) := hd
    clear hb hd
    go_wp2_with fail
    refine (HL.out _ HD3.out).mono ?_
    rintro e w4 ⟨s, rfl, hs, hb, hd⟩
    have HB4 : Hid (But g w w4) := HB3.out.trans hb
    have HD4 : Hid (DrawOk B g w4) := hd
    clear hb hd
    go_wp2
    go_ret
    exact ⟨_, rfl, by (try simp only [str_len, lit1, lit2, lit3]); omega, HB4.out, HD4.out⟩
  by_cases q4 : x = 4
  · subst q4
    go_wp2_with fail
    refine (HO.out _ HD1.out).mono ?_
    rintro e w2 ⟨u, rfl, hu, hb, hd⟩
    have HB2 : Hid (But g w w2) := HB1.out.trans hb
    have HD2 : Hid (DrawOk B g w2) := hd
    clear hb hd
    go_wp2_with fail
    refine (funT_spec HD2.out).mono ?_
    rintro e w3 ⟨t, rfl, ht, hb, hd⟩
    have HB3 : Hid (But g w w3) := HB2.out.trans hb
    have HD3 : Hid (DrawOk B g w3) := hd
    clear hb hd
    go_wp2_with fail
    refine (HL.out _ HD3.out).mono ?_
    rintro e w4 ⟨s, rfl, hs, hb, hd⟩
    have HB4 : Hid (But g w w4) := HB3.out.trans hb
    have HD4 : Hid (DrawOk B g w4) := hd
    clear hb hd
    go_wp2
    go_ret
    exact ⟨_, rfl, by (try simp only [str_len, lit1, lit2, lit3]); omega, HB4.out, HD4.out⟩
  by_cases q5 : x = 5
  · subst q5
    go_wp2_with fail
    refine (HO.out _ HD1.out).mono ?_
    rintro e w2 ⟨u, rfl, hu, hb, hd⟩
    have HB2 : Hid (But g w w2) := HB1.out.trans hb
    have HD2 : Hid (DrawOk B g w2) := hd
    clear hb hd
    go_wp2_with fail
    refine (funT_spec HD2.out).mono ?_
    rintro e w3 ⟨t, rfl, ht, hb, hd⟩
    have HB3 : Hid (But g w w3) := HB2.out.trans hb
    have HD3 : Hid (DrawOk B g w3) := hd
    clear hb hd
    go_wp2_with fail
    refine (HL.out _ HD3.out).mono ?_
    rintro e w4 ⟨s, rfl, hs, hb, hd⟩
    have HB4 : Hid (But g w w4) := HB3.out.trans hb
    have HD4 : Hid (DrawOk B g w4) := hd
    clear hb hd
    go_wp2
    go_ret
    exact ⟨_, rfl, by (try simp only [str_len, lit1, lit2, lit3]); omega, HB4.out, HD4.out⟩
  by_cases q6 : x = 6
  · subst q6
    go_wp2_with fail
    refine (pickS_spec (B := B) (g := g) (gl := w1.heap.size) 15 (by decide) (HD1.out.alloc _) 12 12 (by decide) (by decide) (Nat.ne_of_gt HD1.out.lt) (by simp) (strs_alloc w1 [(⟨#[43, 32, 47, 32, 105, 32, 53]⟩ : ByteArray), (⟨#[50, 32, 51, 32, 35, 32, 105, 32, 54]⟩ : ByteArray), (⟨#[65, 32, 58, 32, 105, 32, 52]⟩ : ByteArray), (⟨#[65, 32, 43, 32, 65, 32, 58, 32, 105, 32, 51]⟩ : ByteArray), (⟨#[40, 32, 105, 32, 51, 32, 41, 32, 111, 32, 42, 32, 105, 32, 52]⟩ : ByteArray), (⟨#[65, 32, 43, 32, 46, 32, 42, 32, 66]⟩ : ByteArray), (⟨#[66, 32, 58, 32, 50, 32, 50, 32, 35, 32, 105, 32, 52]⟩ : ByteArray), (⟨#[103, 32, 51, 32, 49, 32, 50]⟩ : ByteArray), (⟨#[43, 32, 92, 32, 105, 32, 54]⟩ : ByteArray), (⟨#[49, 32, 43, 32, 65, 32, 42, 32, 50, 32, 45, 32, 65]⟩ : ByteArray), (⟨#[126, 32, 65, 32, 61, 32, 66]⟩ : ByteArray), (⟨#[65, 32, 64, 32, 66]⟩ : ByteArray)] _) rfl).mono ?_
    rintro e w2 ⟨t, rfl, ht, hb, hd⟩
    have HB2 : Hid (But g w w2) := (HB1.out.alloc _).trans hb
    have HD2 : Hid (DrawOk B g w2) := hd
    clear hb hd
    go_wp2
    go_ret
    exact ⟨_, rfl, by (try simp only [str_len, lit1, lit2, lit3]); omega, HB2.out, HD2.out⟩
  obtain rfl : x = 7 := by omega
  go_wp2_with fail
  refine (HO.out _ HD1.out).mono ?_
  rintro e w2 ⟨u, rfl, hu, hb, hd⟩
  have HB2 : Hid (But g w w2) := HB1.out.trans hb
  have HD2 : Hid (DrawOk B g w2) := hd
  clear hb hd
  go_wp2
  go_ret
  exact ⟨_, rfl, by (try simp only [str_len, lit1, lit2, lit3]); omega, HB2.out, HD2.out⟩
theorem TxP.le {B g K K' : Nat} {w w' : World} {e : Ending} (h : TxP B g K w e w') (hk : K ≤ K') : TxP B g K' w e w' := by
  obtain ⟨s, h1, h2, h3⟩ := h
  exact ⟨s, h1, by omega, h3⟩
/-- Lines and operands of any depth up to 4. -/
theorem deep_spec {B g : Nat} : ∀ d : Nat, d ≤ 4 → (∀ W, DrawOk B g W → Calls Tryd.prog 50 #[.pointer (some ⟨g, 0, none⟩), .int .i64 (d : Int)] W fun e w' => TxP B g (100 * 4 ^ d) W e w') ∧ (∀ W, DrawOk B g W → Calls Tryd.prog 71 #[.pointer (some ⟨g, 0, none⟩), .int .i64 (d : Int)] W fun e w' => TxP B g (100 * 4 ^ d) W e w')
  | 0, _ => ⟨fun W h => line0_spec h, fun W h => operand0_spec h⟩
  | d + 1, hd => by
    obtain ⟨h1, h2⟩ := deep_spec d (by omega)
    have hp : 100 ≤ 100 * 4 ^ d := Nat.le_mul_of_pos_right _ (Nat.pow_pos (by decide))
    have hp2 : 100 * 4 ^ d ≤ 1000000 := by
      have : 4 ^ d ≤ 4 ^ 3 := Nat.pow_le_pow_right (by decide) (by omega)
      omega
    have e : 100 * 4 ^ (d + 1) = 4 * (100 * 4 ^ d) := by rw [Nat.pow_succ]; omega
    have ed : (((d + 1 : Nat) : Int) - 1) = (d : Int) := by omega
    rw [e]
    exact ⟨fun W h => drawLine_at h _ _ hp hp2 (by omega) (by omega) (fun V hV => by rw [ed]; exact h1 V hV) (fun V hV => by rw [ed]; exact h2 V hV), fun W h => drawOperand_at h _ _ hp hp2 (by omega) (by omega) (fun V hV => by rw [ed]; exact h1 V hV)⟩
end Go.Proofs.YtnebjnglcfebeaaDoor
