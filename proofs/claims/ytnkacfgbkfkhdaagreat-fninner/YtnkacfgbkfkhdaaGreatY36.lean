/-
  Several texts, one behind the other: Draw, DrawA, Draws.
-/
import Derived.Test.YtnkacfgbkfkhdaaGreatY1
namespace Go.Proofs.YtnkacfgbkfkhdaaGreat
open Go.RowKit
set_option linter.unusedVariables false

/-- What is masked lies between 0 and the mask. -/
theorem mask_bd (x : Int) (m : Nat) (hm : m < 9223372036854775808) : 0 ≤ Go.bits .and .i64 x (m : Int) ∧ Go.bits .and .i64 x (m : Int) ≤ (m : Int) := by
  have h2 : (BitVec.ofInt 64 (m : Int)).toNat = m := by
    rw [BitVec.ofInt_natCast, BitVec.toNat_ofNat]; exact Nat.mod_eq_of_lt (by omega)
  have h3 : ((BitVec.ofInt 64 x).toNat &&& m) ≤ m := Nat.and_le_right
  show 0 ≤ IntKind.i64.wrap ((BitVec.ofInt 64 x &&& BitVec.ofInt 64 (m : Int)).toNat : Int) ∧ IntKind.i64.wrap ((BitVec.ofInt 64 x &&& BitVec.ofInt 64 (m : Int)).toNat : Int) ≤ _
  rw [BitVec.toNat_and, h2, IntKind.wrap_i64]
  omega

/-- The bytes that are drawn from: a slice whose cells all lie below block B. -/
def Src (B : Nat) (w : World) (a : Option Addr) (len : Nat) : Prop :=
  len ≤ 9223372036854775807 ∧ (len = 0 ∨ ∃ b off, a = some ⟨b, off, none⟩ ∧ b < B ∧ ∀ k, k < len → ∃ z : Int, 0 ≤ z ∧ z ≤ 255 ∧ w.cell? ⟨b, off + k, none⟩ = some (.int .u8 z))
theorem Src.keep {B : Nat} {w w' : World} {a : Option Addr} {len : Nat} (h : Src B w a len) (hb : Below B w w') : Src B w' a len := by
  refine ⟨h.1, ?_⟩
  rcases h.2 with h | ⟨b, off, e, hB, hc⟩
  · exact .inl h
  · exact .inr ⟨b, off, e, hB, fun k hk => by
      obtain ⟨z, z1, z2, hz⟩ := hc k hk
      exact ⟨z, z1, z2, by rw [hb.cell (p := ⟨b, off + k, none⟩) hB]; exact hz⟩⟩
/-- Block g is a cursor over such bytes. -/
def DrawOk (B g : Nat) (w : World) : Prop :=
  B ≤ g ∧ B ≤ w.heap.size ∧ ∃ (a : Option Addr) (len cap i : Nat) (h : Int), w.heap[g]? = some (.cells #[.slice a len cap, .int .i64 i, .int .i64 h] 67 (0, 0)) ∧ Src B w a len
theorem DrawOk.keep {B g : Nat} {w w' : World} (h : DrawOk B g w) (hb : Below B w w') (hg : w'.heap[g]? = w.heap[g]?) : DrawOk B g w' := by
  obtain ⟨h1, h2, a, len, cap, i, x, hc, hs⟩ := h
  exact ⟨h1, Nat.le_trans h2 hb.size, a, len, cap, i, x, by rw [hg]; exact hc, hs.keep hb⟩
theorem DrawOk.lt {B g : Nat} {w : World} (h : DrawOk B g w) : g < w.heap.size := by
  obtain ⟨_, _, a, len, cap, i, x, hc, _⟩ := h
  exact (Array.getElem?_eq_some_iff.1 hc).1

set_option maxHeartbeats 1000000 in
theorem byte_end (g len cap i : Nat) (h : Int) (a : Option Addr) (w : World) (hi : ¬ i < len) (hl : len ≤ 9223372036854775807)
    (c0 : w.cell? ⟨g, 0, none⟩ = some (.slice a len cap)) (c1 : w.cell? ⟨g, 1, none⟩ = some (.int .i64 i)) (c2 : w.cell? ⟨g, 2, none⟩ = some (.int .i64 h)) (f2 : w.frozen? ⟨g, 2, none⟩ = false) :
    Calls Tryz.prog 44 #[.pointer (some ⟨g, 0, none⟩)] w fun e w' => ∃ (x h' : Int) (n : Nat), 0 ≤ x ∧ x ≤ 255 ∧ e = .returned (.int .i64 x) ∧ w' = (w.setCell ⟨g, 2, none⟩ (.int .i64 h')).drewN n := by
  go_enter Tryz.func44, Tryz.ntmps44
  go_wp2
  go_quiet (fail)
  go_wp2
  go_quiet (fail)
  go_wp2
  go_ret
  exact ⟨_, _, _, (mask_bd _ 255 (by decide)).1, (mask_bd _ 255 (by decide)).2, rfl, World.drewN_drewN _ _ _⟩
set_option maxHeartbeats 1000000 in
theorem byte_more (g len cap i b off : Nat) (h z : Int) (w : World) (hi : i < len) (hl : len ≤ 9223372036854775807) (z1 : 0 ≤ z) (z2 : z ≤ 255)
    (c0 : w.cell? ⟨g, 0, none⟩ = some (.slice (some ⟨b, off, none⟩) len cap)) (c1 : w.cell? ⟨g, 1, none⟩ = some (.int .i64 i)) (c2 : w.cell? ⟨g, 2, none⟩ = some (.int .i64 h)) (f2 : w.frozen? ⟨g, 2, none⟩ = false) (f1 : w.frozen? ⟨g, 1, none⟩ = false)
    (cz : ∀ v, (w.setCell ⟨g, 2, none⟩ v).cell? ⟨b, off + i, none⟩ = some (.int .u8 z)) :
    Calls Tryz.prog 44 #[.pointer (some ⟨g, 0, none⟩)] w fun e w' => ∃ (x h' : Int) (n : Nat), 0 ≤ x ∧ x ≤ 255 ∧ e = .returned (.int .i64 x) ∧ w' = ((w.setCell ⟨g, 2, none⟩ (.int .i64 h')).drewN n).setCell ⟨g, 1, none⟩ (.int .i64 (i + 1)) := by
  have hi' : (i : Int) < (len : Int) := by omega
  go_enter Tryz.func44, Tryz.ntmps44
  go_wp2
  go_quiet (fail)
  go_wp2
  go_quiet (fail)
  go_wp2
  go_quiet (fail)
  go_wp2
  go_ret
  exact ⟨_, _, _, (mask_bd _ 255 (by decide)).1, (mask_bd _ 255 (by decide)).2, rfl, rfl⟩
/-- A byte is drawn. -/
theorem byte_spec {B g : Nat} {w : World} (hd : DrawOk B g w) :
    Calls Tryz.prog 44 #[.pointer (some ⟨g, 0, none⟩)] w fun e w' => ∃ x : Int, 0 ≤ x ∧ x ≤ 255 ∧ e = .returned (.int .i64 x) ∧ But g w w' ∧ DrawOk B g w' := by
  obtain ⟨h1, h2, a, len, cap, i, h, hg, hs⟩ := hd
  have c0 : w.cell? ⟨g, 0, none⟩ = some (.slice a len cap) := by simp [World.cell?, hg]
  have c1 : w.cell? ⟨g, 1, none⟩ = some (.int .i64 i) := by simp [World.cell?, hg]
  have c2 : w.cell? ⟨g, 2, none⟩ = some (.int .i64 h) := by simp [World.cell?, hg]
  have f1 : w.frozen? ⟨g, 1, none⟩ = false := by simp [World.frozen?, hg]
  have f2 : w.frozen? ⟨g, 2, none⟩ = false := by simp [World.frozen?, hg]
  by_cases hi : i < len
  · rcases hs.2 with h0 | ⟨b, off, rfl, hB, hc⟩
    · omega
    · obtain ⟨z, z1, z2, hz⟩ := hc i hi
      refine (byte_more g len cap i b off h z w hi hs.1 z1 z2 c0 c1 c2 f2 f1 (fun v => ?_)).mono ?_
      · exact (World.cell?_of_block (w := w) (a := ⟨b, off + i, none⟩) (Below.heap_setCell w ⟨g, 2, none⟩ v b (by show b ≠ g; omega))).trans hz
      · rintro e w' ⟨x, h', n, x1, x2, rfl, rfl⟩
        have hb : But g w (((w.setCell ⟨g, 2, none⟩ (.int .i64 h')).drewN n).setCell ⟨g, 1, none⟩ (.int .i64 (i + 1))) := (((But.refl g w).setCell 2 _).drewN n).setCell 1 _
        refine ⟨x, x1, x2, rfl, hb, h1, Nat.le_trans h2 hb.size, some ⟨b, off, none⟩, len, cap, i + 1, h', ?_, hs.keep (hb.below h1 h2)⟩
        have e1 := heap_setCell_same w g 2 _ _ (.int .i64 h') hg
        have e2 := heap_setCell_same ((w.setCell ⟨g, 2, none⟩ (.int .i64 h')).drewN n) g 1 _ _ (.int .i64 (i + 1)) e1
        simpa using e2
  · refine (byte_end g len cap i h a w hi hs.1 c0 c1 c2 f2).mono ?_
    rintro e w' ⟨x, h', n, x1, x2, rfl, rfl⟩
    have hb : But g w ((w.setCell ⟨g, 2, none⟩ (.int .i64 h')).drewN n) := ((But.refl g w).setCell 2 _).drewN n
    refine ⟨x, x1, x2, rfl, hb, h1, Nat.le_trans h2 hb.size, a, len, cap, i, h', ?_, hs.keep (hb.below h1 h2)⟩
    have e1 := heap_setCell_same w g 2 _ _ (.int .i64 h') hg
    simpa using e1

set_option maxHeartbeats 1000000 in
/-- A number from 0 up to below n is drawn (n up to 256). -/
theorem below_small {B g : Nat} {w : World} (hd : DrawOk B g w) (n : Int) (n0 : 0 < n) (n1 : n ≤ 256) :
    Calls Tryz.prog 14 #[.pointer (some ⟨g, 0, none⟩), .int .i64 n] w fun e w' => ∃ x : Int, 0 ≤ x ∧ x < n ∧ e = .returned (.int .i64 x) ∧ But g w w' ∧ DrawOk B g w' := by
  have HD : Hid (DrawOk B g w) := hd
  clear hd
  have hn : ¬ n ≤ 0 := by omega
  go_enter Tryz.func14, Tryz.ntmps14
  go_wp2_with fail
  refine (byte_spec HD.out).mono ?_
  rintro e w' ⟨x, x1, x2, rfl, hb, hd'⟩
  have HB : Hid (But g w w') := hb
  have HD' : Hid (DrawOk B g w') := hd'
  clear hb hd'
  go_wp2
  go_ret
  exact ⟨_, Int.emod_nonneg _ (by omega), Int.emod_lt_of_pos _ n0, rfl, HB.out, HD'.out⟩
theorem once_spec {B g : Nat} {w : World} (hd : DrawOk B g w) (n : Int) (n0 : 0 < n) (n1 : n ≤ 256) :
    Calls Tryz.prog 16 #[.pointer (some ⟨g, 0, none⟩), .int .i64 n] w fun e w' => ∃ b : Bool, e = .returned (.bool b) ∧ But g w w' ∧ DrawOk B g w' := by
  have HD : Hid (DrawOk B g w) := hd
  clear hd
  go_enter Tryz.func16, Tryz.ntmps16
  go_wp2_with fail
  refine (below_small HD.out n n0 n1).mono ?_
  rintro e w' ⟨x, x1, x2, rfl, hb, hd'⟩
  have HB : Hid (But g w w') := hb
  have HD' : Hid (DrawOk B g w') := hd'
  clear hb hd'
  go_wp2
  go_ret
  exact ⟨_, rfl, HB.out, HD'.out⟩
/-- A list of numbers that the call itself made. -/
def Nums (gl : Nat) (l : List Int) (w : World) : Prop := ∀ k, k < l.length → w.cell? ⟨gl, k, none⟩ = some (.int .i64 (l.getD k 0))
set_option maxHeartbeats 1000000 in
theorem pick_spec {B g gl : Nat} {w : World} {l : List Int} (hd : DrawOk B g w) (n cap : Nat) (n0 : 0 < n) (n1 : n ≤ 256) (hne : gl ≠ g) (hgl : gl < w.heap.size) (hl : Nums gl l w) (hn : l.length = n) :
    Calls Tryz.prog 43 #[.pointer (some ⟨g, 0, none⟩), .slice (some ⟨gl, 0, none⟩) n cap] w fun e w' => ∃ x : Int, e = .returned (.int .i64 x) ∧ But g w w' ∧ DrawOk B g w' ∧ x ∈ l := by
  have HD : Hid (DrawOk B g w) := hd
  have HL : Hid (Nums gl l w) := hl
  have HE : Hid (l.length = n) := hn
  clear hd hl hn
  go_enter Tryz.func43, Tryz.ntmps43
  go_wp2_with fail
  refine (below_small HD.out n (by omega) (by omega)).mono ?_
  rintro e w' ⟨x, x1, x2, rfl, hb, hd'⟩
  obtain ⟨k, rfl⟩ := Int.eq_ofNat_of_zero_le x1
  have kl : k < l.length := by have := HE.out; omega
  have hz := HL.out k kl
  have HM : Hid (l.getD k 0 ∈ l) := by show l.getD k 0 ∈ l; simp [kl]
  generalize l.getD k 0 = z at hz HM
  clear kl
  have hz' : w'.cell? ⟨gl, k, none⟩ = some (.int .i64 z) := by rw [hb.cell (p := ⟨gl, k, none⟩) hgl hne]; exact hz
  have HB : Hid (But g w w') := hb
  have HD' : Hid (DrawOk B g w') := hd'
  clear hb hd' hz
  go_wp2
  go_ret
  exact ⟨_, rfl, HB.out, HD'.out, HM.out⟩
end Go.Proofs.YtnkacfgbkfkhdaaGreat
namespace Go.Proofs.YtnkacfgbkfkhdaaGreat
open Go.RowKit
theorem DrawOk.alloc {B g : Nat} {w : World} (h : DrawOk B g w) (o : Obj) : DrawOk B g (w.alloc o) :=
  h.keep ((Below.refl _ _).alloc h.2.1 o) (Below.heap_alloc _ _ _ h.lt)
theorem nums_alloc (w : World) (l : List Int) (t : TypeId) : Nums w.heap.size l (w.alloc (.cells (l.map (Value.int .i64)).toArray t)) := by
  intro k hk
  rw [World.cell?_alloc_at _ _ _ _ rfl]
  simp [hk]
end Go.Proofs.YtnkacfgbkfkhdaaGreat
namespace Go.Proofs.YtnkacfgbkfkhdaaGreat
open Go.RowKit
set_option linter.unusedVariables false
theorem new_end {w : World} {a : Option Addr} {len cap : Nat} {x : Int} (hs : Src w.heap.size w a len) :
    Below w.heap.size w (w.alloc (.cells #[.slice a len cap, .int .i64 0, .int .i64 x] 67)) ∧ DrawOk w.heap.size w.heap.size (w.alloc (.cells #[.slice a len cap, .int .i64 0, .int .i64 x] 67)) := by
  have hb : Below w.heap.size w (w.alloc (.cells #[.slice a len cap, .int .i64 0, .int .i64 x] 67)) := (Below.refl _ _).alloc (Nat.le_refl _) _
  exact ⟨hb, Nat.le_refl _, hb.size, a, len, cap, 0, x, heap_alloc_new w _, hs.keep hb⟩
set_option maxRecDepth 20000 in
set_option maxHeartbeats 1000000 in
/-- A new cursor over bytes that came in. -/
theorem new_spec {w : World} {a : Option Addr} {len cap : Nat} (hs : Src w.heap.size w a len) (hb20 : len ≤ 1048576) :
    Calls Tryz.prog 12 #[.slice a len cap] w fun e w' => ∃ g, e = .returned (.pointer (some ⟨g, 0, none⟩)) ∧ Below w.heap.size w w' ∧ DrawOk w.heap.size g w' := by
  have HS : Hid (Src w.heap.size w a len) := hs
  clear hs
  go_enter Tryz.func12, Tryz.ntmps12
  go_wp2
  go_loop [3, 4] (fun h i => ∃ (x : Int) (k : Nat), k ≤ len ∧ 0 ≤ x ∧ x ≤ 1073741823 ∧ h = .int .i64 x ∧ i = .int .i64 k) (fun _ i => len - (intOf i).toNat)
  case atStart => exact ⟨_, 0, by omega, by omega, by omega, rfl, rfl⟩
  case round =>
    obtain ⟨x, k, hk, x1, x2, rfl, rfl⟩ := hrel
    by_cases hlt : (k : Int) < (len : Int) ∧ (k : Int) < 4000
    · obtain ⟨l1, l2⟩ := hlt
      rcases HS.out.2 with h0 | ⟨b, off, rfl, hB, hc⟩
      · omega
      · obtain ⟨z, z1, z2, hz⟩ := hc k (by omega)
        clear hc
        go_wp2
        go_round
        case rel => exact ⟨_, k + 1, by omega, (mask_bd _ 1073741823 (by decide)).1, (mask_bd _ 1073741823 (by decide)).2, rfl, by go_num⟩
        case measure => simp [intOf]; omega
    · by_cases l1 : (k : Int) < (len : Int)
      · have l2 : ¬ (k : Int) < 4000 := fun h => hlt ⟨l1, h⟩
        clear hlt
        go_wp2
        go_ret
        exact ⟨_, rfl, new_end HS.out⟩
      · clear hlt
        go_wp2
        go_ret
        exact ⟨_, rfl, new_end HS.out⟩
set_option maxRecDepth 20000 in
set_option maxHeartbeats 1000000 in
theorem num_spec {B g : Nat} {w : World} (hd : DrawOk B g w) :
    Calls Tryz.prog 45 #[.pointer (some ⟨g, 0, none⟩)] w fun e w' => ∃ x : Int, e = .returned (.int .i64 x) ∧ But g w w' ∧ DrawOk B g w' := by
  have HD : Hid (DrawOk B g w) := hd
  clear hd
  go_enter Tryz.func45, Tryz.ntmps45
  go_wp2_with fail
  refine (once_spec HD.out 12 (by decide) (by decide)).mono ?_
  rintro e w' ⟨b, rfl, hb, hd'⟩
  have HB : Hid (But g w w') := hb
  have HD' : Hid (DrawOk B g w') := hd'
  have hz := hd'.lt
  clear hb hd'
  cases b
  · go_wp2_with fail
    refine (below_small HD'.out 20 (by decide) (by decide)).mono ?_
    rintro e w2 ⟨x, x1, x2, rfl, hb2, hd2⟩
    have HB2 : Hid (But g w' w2) := hb2
    have HD2 : Hid (DrawOk B g w2) := hd2
    clear hb2 hd2
    go_wp2
    go_ret
    exact ⟨_, rfl, HB.out.trans HB2.out, HD2.out⟩
  · go_wp2_with fail
    refine (pick_spec (B := B) (g := g) (gl := w'.heap.size) (HD'.out.alloc _) 7 7 (by decide) (by decide) (by omega) (by simp) (nums_alloc w' [1000000000000, (-1000000000000 : Int), 999999999999, 1000000, (-1000000 : Int), 1000001, 999999999999] _) rfl).mono ?_
    rintro e w2 ⟨x, rfl, hb2, hd2, hm⟩
    have HB2 : Hid (But g _ w2) := hb2
    have HD2 : Hid (DrawOk B g w2) := hd2
    clear hb2 hd2
    go_wp2
    go_ret
    exact ⟨_, rfl, (HB.out.alloc _).trans HB2.out, HD2.out⟩
set_option maxRecDepth 20000 in
set_option maxHeartbeats 1000000 in
theorem raw_spec {B g : Nat} {w : World} (hd : DrawOk B g w) :
    Calls Tryz.prog 48 #[.pointer (some ⟨g, 0, none⟩)] w fun e w' => ∃ x : Int, e = .returned (.int .i64 x) ∧ But g w w' ∧ DrawOk B g w' := by
  have HD : Hid (DrawOk B g w) := hd
  clear hd
  go_enter Tryz.func48, Tryz.ntmps48
  go_wp2_with fail
  refine (once_spec HD.out 15 (by decide) (by decide)).mono ?_
  rintro e w' ⟨b, rfl, hb, hd'⟩
  have HB : Hid (But g w w') := hb
  have HD' : Hid (DrawOk B g w') := hd'
  have hz := hd'.lt
  clear hb hd'
  cases b
  · go_wp2_with fail
    refine (num_spec HD'.out).mono ?_
    rintro e w2 ⟨x, rfl, hb2, hd2⟩
    have HB2 : Hid (But g w' w2) := hb2
    have HD2 : Hid (DrawOk B g w2) := hd2
    clear hb2 hd2
    go_wp2
    go_ret
    exact ⟨_, rfl, HB.out.trans HB2.out, HD2.out⟩
  · go_wp2_with fail
    refine (pick_spec (B := B) (g := g) (gl := w'.heap.size) (HD'.out.alloc _) 4 4 (by decide) (by decide) (by omega) (by simp) (nums_alloc w' [1000000000001, (-1000000000001 : Int), 9223372036854775807, (-9223372036854775808 : Int)] _) rfl).mono ?_
    rintro e w2 ⟨x, rfl, hb2, hd2, hm⟩
    have HB2 : Hid (But g _ w2) := hb2
    have HD2 : Hid (DrawOk B g w2) := hd2
    clear hb2 hd2
    go_wp2
    go_ret
    exact ⟨_, rfl, (HB.out.alloc _).trans HB2.out, HD2.out⟩
set_option maxRecDepth 20000 in
set_option maxHeartbeats 1000000 in
theorem sign_spec {B g : Nat} {w : World} (hd : DrawOk B g w) :
    Calls Tryz.prog 13 #[.pointer (some ⟨g, 0, none⟩)] w fun e w' => ∃ x : Int, e = .returned (.int .i64 x) ∧ But g w w' ∧ DrawOk B g w' := by
  have HD : Hid (DrawOk B g w) := hd
  clear hd
  go_enter Tryz.func13, Tryz.ntmps13
  go_wp2_with fail
  refine (once_spec HD.out 20 (by decide) (by decide)).mono ?_
  rintro e w' ⟨b, rfl, hb, hd'⟩
  have HB : Hid (But g w w') := hb
  have HD' : Hid (DrawOk B g w') := hd'
  have hz := hd'.lt
  clear hb hd'
  cases b
  · go_wp2_with fail
    refine (pick_spec (B := B) (g := g) (gl := w'.heap.size) (HD'.out.alloc _) 11 11 (by decide) (by decide) (by omega) (by simp) (nums_alloc w' [43, 45, 42, 37, 124, 38, 94, 61, 60, 62, 126] _) rfl).mono ?_
    rintro e w2 ⟨x, rfl, hb2, hd2, hm⟩
    have HB2 : Hid (But g _ w2) := hb2
    have HD2 : Hid (DrawOk B g w2) := hd2
    clear hb2 hd2
    go_wp2
    go_ret
    exact ⟨_, rfl, (HB.out.alloc _).trans HB2.out, HD2.out⟩
  · go_wp2_with fail
    refine (pick_spec (B := B) (g := g) (gl := w'.heap.size) (HD'.out.alloc _) 5 5 (by decide) (by decide) (by omega) (by simp) (nums_alloc w' [0, (-1 : Int), 105, 300, 47] _) rfl).mono ?_
    rintro e w2 ⟨x, rfl, hb2, hd2, hm⟩
    have HB2 : Hid (But g _ w2) := hb2
    have HD2 : Hid (DrawOk B g w2) := hd2
    clear hb2 hd2
    go_wp2
    go_ret
    exact ⟨_, rfl, (HB.out.alloc _).trans HB2.out, HD2.out⟩
theorem src_of_row {w : World} {a : Option Addr} {len cap : Nat} {zs : List Int} (h : IsRow .u8 w a len cap zs) : Src w.heap.size w a len := by
  rcases h with ⟨rfl, rfl, rfl, rfl⟩ | ⟨⟨b, off, spot⟩, rfl, hl, hm, hz, hcell, hwz⟩
  · exact ⟨by omega, .inl rfl⟩
  · unfold maxLen at hm
    refine ⟨by omega, ?_⟩
    by_cases h0 : len = 0
    · exact .inl h0
    · have hc := hcell 0 (by omega)
      have hspot : spot = none := by simpa [Addr.add] using World.cell?_spot hc
      subst hspot
      refine .inr ⟨b, off, rfl, ?_, fun k hk => ?_⟩
      · by_cases hb : b < w.heap.size
        · exact hb
        · have : w.heap[b]? = none := Array.getElem?_eq_none (by omega)
          simp [Addr.add, World.cell?, this] at hc
      · have hk' : k < zs.length := by omega
        have hadd : (⟨b, off, none⟩ : Addr).add k = ⟨b, off + k, none⟩ := by unfold Addr.add; split <;> simp_all
        refine ⟨zs.getD k 0, ?_, ?_, by rw [← hadd]; exact hcell k hk'⟩
        all_goals
          have hw := hwz (zs.getD k 0) (by simp [List.getD, hk'])
          simp [Lit.wf, IntKind.min, IntKind.max, IntKind.signed, IntKind.bits] at hw
          simp
          omega
set_option maxHeartbeats 400000 in
theorem big_laws (a : Option Addr) (len cap : Nat) (w : World) : Calls Tryz.prog 4 #[.slice a len cap] w fun e w' => e = .returned (.bool (decide ((1048576 : Int) < (len : Int)))) ∧ w' = w := by
  go_enter Tryz.func4, Tryz.ntmps4
  go_wp2
  go_ret
  exact ⟨rfl, rfl⟩
end Go.Proofs.YtnkacfgbkfkhdaaGreat
