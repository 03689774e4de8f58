/-
  Several walks, one behind the other: Draw, DrawA, Draws, DrawShape, DrawArr, DrawFill, DrawFill2, DrawFill3, DrawHpB, DrawHp, DrawHq, DrawHr, DrawHx.
-/
import Derived.Test.YtmmjidhpmbcoiaaBase
import Derived.Test.YtmmjidhpmbcoiaaOwn
import Derived.Test.YtmmjidhpmbcoiaaSpecShape
import Derived.Test.YtmmjidhpmbcoiaaAppend
import Derived.Test.YtmmjidhpmbcoiaaLaw3
import Derived.Deep.AppendLies
import Derived.Deep.RegionLaw
import Derived.Deep.RegionHeld3
import Derived.Test.YtmmjidhpmbcoiaaZ2
import Derived.Test.YtmmjidhpmbcoiaaZ1
import Derived.Deep.CutRange
namespace Go.Proofs.Ytmmjidhpmbcoiaa
open Go.RowKit
set_option linter.unusedVariables false

/-- What is masked lies between 0 and the mask. -/
theorem mask_bd (x : Int) (m : Nat) (hm : m < 9223372036854775808) : 0 ≤ Go.bits .and .i64 x (m : Int) ∧ Go.bits .and .i64 x (m : Int) ≤ (m : Int) := by
  have h2 : (BitVec.ofInt 64 (m : Int)).toNat = m := by
    rw [BitVec.ofInt_natCast, BitVec.toNat_ofNat]; exact Nat.mod_eq_of_lt (by omega)
  have h3 : ((BitVec.ofInt 64 x).toNat &&& m) ≤ m := Nat.and_le_right
  show 0 ≤ IntKind.i64.wrap ((BitVec.ofInt 64 x &&& BitVec.ofInt 64 (m : Int)).toNat : Int) ∧ IntKind.i64.wrap ((BitVec.ofInt 64 x &&& BitVec.ofInt 64 (m : Int)).toNat : Int) ≤ _
  rw [BitVec.toNat_and, h2, IntKind.wrap_i64]
  omega

/-- The bytes that are drawn from: a slice whose cells all lie below block B. -/
def Src (B : Nat) (w : World) (a : Option Addr) (len : Nat) : Prop :=
  len ≤ 9223372036854775807 ∧ (len = 0 ∨ ∃ b off, a = some ⟨b, off, none⟩ ∧ b < B ∧ ∀ k, k < len → ∃ z : Int, 0 ≤ z ∧ z ≤ 255 ∧ w.cell? ⟨b, off + k, none⟩ = some (.int .u8 z))
theorem Src.keep {B : Nat} {w w' : World} {a : Option Addr} {len : Nat} (h : Src B w a len) (hb : Below B w w') : Src B w' a len := by
  refine ⟨h.1, ?_⟩
  rcases h.2 with h | ⟨b, off, e, hB, hc⟩
  · exact .inl h
  · exact .inr ⟨b, off, e, hB, fun k hk => by
      obtain ⟨z, z1, z2, hz⟩ := hc k hk
      exact ⟨z, z1, z2, by rw [hb.cell (p := ⟨b, off + k, none⟩) hB]; exact hz⟩⟩
/-- Block g is a cursor over such bytes. -/
def DrawOk (B g : Nat) (w : World) : Prop :=
  B ≤ g ∧ B ≤ w.heap.size ∧ ∃ (a : Option Addr) (len cap i : Nat) (h : Int), w.heap[g]? = some (.cells #[.slice a len cap, .int .i64 i, .int .i64 h] 90 (0, 0)) ∧ Src B w a len
theorem DrawOk.keep {B g : Nat} {w w' : World} (h : DrawOk B g w) (hb : Below B w w') (hg : w'.heap[g]? = w.heap[g]?) : DrawOk B g w' := by
  obtain ⟨h1, h2, a, len, cap, i, x, hc, hs⟩ := h
  exact ⟨h1, Nat.le_trans h2 hb.size, a, len, cap, i, x, by rw [hg]; exact hc, hs.keep hb⟩
theorem DrawOk.lt {B g : Nat} {w : World} (h : DrawOk B g w) : g < w.heap.size := by
  obtain ⟨_, _, a, len, cap, i, x, hc, _⟩ := h
  exact (Array.getElem?_eq_some_iff.1 hc).1

set_option maxHeartbeats 1000000 in
theorem byte_end (g len cap i : Nat) (h : Int) (a : Option Addr) (w : World) (hi : ¬ i < len) (hl : len ≤ 9223372036854775807)
    (c0 : w.cell? ⟨g, 0, none⟩ = some (.slice a len cap)) (c1 : w.cell? ⟨g, 1, none⟩ = some (.int .i64 i)) (c2 : w.cell? ⟨g, 2, none⟩ = some (.int .i64 h)) (f2 : w.frozen? ⟨g, 2, none⟩ = false) :
    Calls Try.prog 74 #[.pointer (some ⟨g, 0, none⟩)] w fun e w' => ∃ (x h' : Int) (n : Nat), 0 ≤ x ∧ x ≤ 255 ∧ e = .returned (.int .i64 x) ∧ w' = (w.setCell ⟨g, 2, none⟩ (.int .i64 h')).drewN n := by
  go_enter Try.func74, Try.ntmps74
  go_wp2
  go_quiet (fail)
  go_wp2
  go_quiet (fail)
  go_wp2
  go_ret
  exact ⟨_, _, _, (mask_bd _ 255 (by decide)).1, (mask_bd _ 255 (by decide)).2, rfl, World.drewN_drewN _ _ _⟩
set_option maxHeartbeats 1000000 in
theorem byte_more (g len cap i b off : Nat) (h z : Int) (w : World) (hi : i < len) (hl : len ≤ 9223372036854775807) (z1 : 0 ≤ z) (z2 : z ≤ 255)
    (c0 : w.cell? ⟨g, 0, none⟩ = some (.slice (some ⟨b, off, none⟩) len cap)) (c1 : w.cell? ⟨g, 1, none⟩ = some (.int .i64 i)) (c2 : w.cell? ⟨g, 2, none⟩ = some (.int .i64 h)) (f2 : w.frozen? ⟨g, 2, none⟩ = false) (f1 : w.frozen? ⟨g, 1, none⟩ = false)
    (cz : ∀ v, (w.setCell ⟨g, 2, none⟩ v).cell? ⟨b, off + i, none⟩ = some (.int .u8 z)) :
    Calls Try.prog 74 #[.pointer (some ⟨g, 0, none⟩)] w fun e w' => ∃ (x h' : Int) (n : Nat), 0 ≤ x ∧ x ≤ 255 ∧ e = .returned (.int .i64 x) ∧ w' = ((w.setCell ⟨g, 2, none⟩ (.int .i64 h')).drewN n).setCell ⟨g, 1, none⟩ (.int .i64 (i + 1)) := by
  have hi' : (i : Int) < (len : Int) := by omega
  go_enter Try.func74, Try.ntmps74
  go_wp2
  go_quiet (fail)
  go_wp2
  go_quiet (fail)
  go_wp2
  go_quiet (fail)
  go_wp2
  go_ret
  exact ⟨_, _, _, (mask_bd _ 255 (by decide)).1, (mask_bd _ 255 (by decide)).2, rfl, rfl⟩
/-- A byte is drawn. -/
theorem byte_spec {B g : Nat} {w : World} (hd : DrawOk B g w) :
    Calls Try.prog 74 #[.pointer (some ⟨g, 0, none⟩)] w fun e w' => ∃ x : Int, 0 ≤ x ∧ x ≤ 255 ∧ e = .returned (.int .i64 x) ∧ But g w w' ∧ DrawOk B g w' := by
  obtain ⟨h1, h2, a, len, cap, i, h, hg, hs⟩ := hd
  have c0 : w.cell? ⟨g, 0, none⟩ = some (.slice a len cap) := by simp [World.cell?, hg]
  have c1 : w.cell? ⟨g, 1, none⟩ = some (.int .i64 i) := by simp [World.cell?, hg]
  have c2 : w.cell? ⟨g, 2, none⟩ = some (.int .i64 h) := by simp [World.cell?, hg]
  have f1 : w.frozen? ⟨g, 1, none⟩ = false := by simp [World.frozen?, hg]
  have f2 : w.frozen? ⟨g, 2, none⟩ = false := by simp [World.frozen?, hg]
  by_cases hi : i < len
  · rcases hs.2 with h0 | ⟨b, off, rfl, hB, hc⟩
    · omega
    · obtain ⟨z, z1, z2, hz⟩ := hc i hi
      refine (byte_more g len cap i b off h z w hi hs.1 z1 z2 c0 c1 c2 f2 f1 (fun v => ?_)).mono ?_
      · exact (World.cell?_of_block (w := w) (a := ⟨b, off + i, none⟩) (Below.heap_setCell w ⟨g, 2, none⟩ v b (by show b ≠ g; omega))).trans hz
      · rintro e w' ⟨x, h', n, x1, x2, rfl, rfl⟩
        have hb : But g w (((w.setCell ⟨g, 2, none⟩ (.int .i64 h')).drewN n).setCell ⟨g, 1, none⟩ (.int .i64 (i + 1))) := (((But.refl g w).setCell 2 _).drewN n).setCell 1 _
        refine ⟨x, x1, x2, rfl, hb, h1, Nat.le_trans h2 hb.size, some ⟨b, off, none⟩, len, cap, i + 1, h', ?_, hs.keep (hb.below h1 h2)⟩
        have e1 := heap_setCell_same w g 2 _ _ (.int .i64 h') hg
        have e2 := heap_setCell_same ((w.setCell ⟨g, 2, none⟩ (.int .i64 h')).drewN n) g 1 _ _ (.int .i64 (i + 1)) e1
        simpa using e2
  · refine (byte_end g len cap i h a w hi hs.1 c0 c1 c2 f2).mono ?_
    rintro e w' ⟨x, h', n, x1, x2, rfl, rfl⟩
    have hb : But g w ((w.setCell ⟨g, 2, none⟩ (.int .i64 h')).drewN n) := ((But.refl g w).setCell 2 _).drewN n
    refine ⟨x, x1, x2, rfl, hb, h1, Nat.le_trans h2 hb.size, a, len, cap, i, h', ?_, hs.keep (hb.below h1 h2)⟩
    have e1 := heap_setCell_same w g 2 _ _ (.int .i64 h') hg
    simpa using e1

set_option maxHeartbeats 1000000 in
/-- A number from 0 up to below n is drawn (n up to 256). -/
theorem below_small {B g : Nat} {w : World} (hd : DrawOk B g w) (n : Int) (n0 : 0 < n) (n1 : n ≤ 256) :
    Calls Try.prog 42 #[.pointer (some ⟨g, 0, none⟩), .int .i64 n] w fun e w' => ∃ x : Int, 0 ≤ x ∧ x < n ∧ e = .returned (.int .i64 x) ∧ But g w w' ∧ DrawOk B g w' := by
  have HD : Hid (DrawOk B g w) := hd
  clear hd
  have hn : ¬ n ≤ 0 := by omega
  go_enter Try.func42, Try.ntmps42
  go_wp2_with fail
  refine (byte_spec HD.out).mono ?_
  rintro e w' ⟨x, x1, x2, rfl, hb, hd'⟩
  have HB : Hid (But g w w') := hb
  have HD' : Hid (DrawOk B g w') := hd'
  clear hb hd'
  go_wp2
  go_ret
  exact ⟨_, Int.emod_nonneg _ (by omega), Int.emod_lt_of_pos _ n0, rfl, HB.out, HD'.out⟩
theorem once_spec {B g : Nat} {w : World} (hd : DrawOk B g w) (n : Int) (n0 : 0 < n) (n1 : n ≤ 256) :
    Calls Try.prog 88 #[.pointer (some ⟨g, 0, none⟩), .int .i64 n] w fun e w' => ∃ b : Bool, e = .returned (.bool b) ∧ But g w w' ∧ DrawOk B g w' := by
  have HD : Hid (DrawOk B g w) := hd
  clear hd
  go_enter Try.func88, Try.ntmps88
  go_wp2_with fail
  refine (below_small HD.out n n0 n1).mono ?_
  rintro e w' ⟨x, x1, x2, rfl, hb, hd'⟩
  have HB : Hid (But g w w') := hb
  have HD' : Hid (DrawOk B g w') := hd'
  clear hb hd'
  go_wp2
  go_ret
  exact ⟨_, rfl, HB.out, HD'.out⟩
/-- A list of numbers that the call itself made. -/
def Nums (gl : Nat) (l : List Int) (w : World) : Prop := ∀ k, k < l.length → w.cell? ⟨gl, k, none⟩ = some (.int .i64 (l.getD k 0))
set_option maxHeartbeats 1000000 in
theorem pick_spec {B g gl : Nat} {w : World} {l : List Int} (hd : DrawOk B g w) (n cap : Nat) (n0 : 0 < n) (n1 : n ≤ 256) (hne : gl ≠ g) (hgl : gl < w.heap.size) (hl : Nums gl l w) (hn : l.length = n) :
    Calls Try.prog 41 #[.pointer (some ⟨g, 0, none⟩), .slice (some ⟨gl, 0, none⟩) n cap] w fun e w' => ∃ x : Int, e = .returned (.int .i64 x) ∧ But g w w' ∧ DrawOk B g w' ∧ x ∈ l := by
  have HD : Hid (DrawOk B g w) := hd
  have HL : Hid (Nums gl l w) := hl
  have HE : Hid (l.length = n) := hn
  clear hd hl hn
  go_enter Try.func41, Try.ntmps41
  go_wp2_with fail
  refine (below_small HD.out n (by omega) (by omega)).mono ?_
  rintro e w' ⟨x, x1, x2, rfl, hb, hd'⟩
  obtain ⟨k, rfl⟩ := Int.eq_ofNat_of_zero_le x1
  have kl : k < l.length := by have := HE.out; omega
  have hz := HL.out k kl
  have HM : Hid (l.getD k 0 ∈ l) := by show l.getD k 0 ∈ l; simp [kl]
  generalize l.getD k 0 = z at hz HM
  clear kl
  have hz' : w'.cell? ⟨gl, k, none⟩ = some (.int .i64 z) := by rw [hb.cell (p := ⟨gl, k, none⟩) hgl hne]; exact hz
  have HB : Hid (But g w w') := hb
  have HD' : Hid (DrawOk B g w') := hd'
  clear hb hd' hz
  go_wp2
  go_ret
  exact ⟨_, rfl, HB.out, HD'.out, HM.out⟩
end Go.Proofs.Ytmmjidhpmbcoiaa
namespace Go.Proofs.Ytmmjidhpmbcoiaa
open Go.RowKit
theorem DrawOk.alloc {B g : Nat} {w : World} (h : DrawOk B g w) (o : Obj) : DrawOk B g (w.alloc o) :=
  h.keep ((Below.refl _ _).alloc h.2.1 o) (Below.heap_alloc _ _ _ h.lt)
theorem nums_alloc (w : World) (l : List Int) (t : TypeId) : Nums w.heap.size l (w.alloc (.cells (l.map (Value.int .i64)).toArray t)) := by
  intro k hk
  rw [World.cell?_alloc_at _ _ _ _ rfl]
  simp [hk]
end Go.Proofs.Ytmmjidhpmbcoiaa
namespace Go.Proofs.Ytmmjidhpmbcoiaa
open Go.RowKit
set_option linter.unusedVariables false
theorem new_end {w : World} {a : Option Addr} {len cap : Nat} {x : Int} (hs : Src w.heap.size w a len) :
    Below w.heap.size w (w.alloc (.cells #[.slice a len cap, .int .i64 0, .int .i64 x] 90)) ∧ DrawOk w.heap.size w.heap.size (w.alloc (.cells #[.slice a len cap, .int .i64 0, .int .i64 x] 90)) := by
  have hb : Below w.heap.size w (w.alloc (.cells #[.slice a len cap, .int .i64 0, .int .i64 x] 90)) := (Below.refl _ _).alloc (Nat.le_refl _) _
  exact ⟨hb, Nat.le_refl _, hb.size, a, len, cap, 0, x, heap_alloc_new w _, hs.keep hb⟩
set_option maxRecDepth 20000 in
set_option maxHeartbeats 1000000 in
/-- A new cursor over bytes that came in. -/
theorem new_spec {w : World} {a : Option Addr} {len cap : Nat} (hs : Src w.heap.size w a len) (hb20 : len ≤ 1048576) :
    Calls Try.prog 40 #[.slice a len cap] w fun e w' => ∃ g, e = .returned (.pointer (some ⟨g, 0, none⟩)) ∧ Below w.heap.size w w' ∧ DrawOk w.heap.size g w' := by
  have HS : Hid (Src w.heap.size w a len) := hs
  clear hs
  go_enter Try.func40, Try.ntmps40
  go_wp2
  go_loop [3, 4] (fun h i => ∃ (x : Int) (k : Nat), k ≤ len ∧ 0 ≤ x ∧ x ≤ 1073741823 ∧ h = .int .i64 x ∧ i = .int .i64 k) (fun _ i => len - (intOf i).toNat)
  case atStart => exact ⟨_, 0, by omega, by omega, by omega, rfl, rfl⟩
  case round =>
    obtain ⟨x, k, hk, x1, x2, rfl, rfl⟩ := hrel
    by_cases hlt : (k : Int) < (len : Int) ∧ (k : Int) < 4000
    · obtain ⟨l1, l2⟩ := hlt
      rcases HS.out.2 with h0 | ⟨b, off, rfl, hB, hc⟩
      · omega
      · obtain ⟨z, z1, z2, hz⟩ := hc k (by omega)
        clear hc
        go_wp2
        go_round
        case rel => exact ⟨_, k + 1, by omega, (mask_bd _ 1073741823 (by decide)).1, (mask_bd _ 1073741823 (by decide)).2, rfl, by go_num⟩
        case measure => simp [intOf]; omega
    · by_cases l1 : (k : Int) < (len : Int)
      · have l2 : ¬ (k : Int) < 4000 := fun h => hlt ⟨l1, h⟩
        clear hlt
        go_wp2
        go_ret
        exact ⟨_, rfl, new_end HS.out⟩
      · clear hlt
        go_wp2
        go_ret
        exact ⟨_, rfl, new_end HS.out⟩
set_option maxRecDepth 20000 in
set_option maxHeartbeats 1000000 in
theorem num_spec {B g : Nat} {w : World} (hd : DrawOk B g w) :
    Calls Try.prog 111 #[.pointer (some ⟨g, 0, none⟩)] w fun e w' => ∃ x : Int, e = .returned (.int .i64 x) ∧ But g w w' ∧ DrawOk B g w' := by
  have HD : Hid (DrawOk B g w) := hd
  clear hd
  go_enter Try.func111, Try.ntmps111
  go_wp2_with fail
  refine (once_spec HD.out 12 (by decide) (by decide)).mono ?_
  rintro e w' ⟨b, rfl, hb, hd'⟩
  have HB : Hid (But g w w') := hb
  have HD' : Hid (DrawOk B g w') := hd'
  have hz := hd'.lt
  clear hb hd'
  cases b
  · go_wp2_with fail
    refine (below_small HD'.out 20 (by decide) (by decide)).mono ?_
    rintro e w2 ⟨x, x1, x2, rfl, hb2, hd2⟩
    have HB2 : Hid (But g w' w2) := hb2
    have HD2 : Hid (DrawOk B g w2) := hd2
    clear hb2 hd2
    go_wp2
    go_ret
    exact ⟨_, rfl, HB.out.trans HB2.out, HD2.out⟩
  · go_wp2_with fail
    refine (pick_spec (B := B) (g := g) (gl := w'.heap.size) (HD'.out.alloc _) 7 7 (by decide) (by decide) (by omega) (by simp) (nums_alloc w' [1000000000000, (-1000000000000 : Int), 999999999999, 1000000, (-1000000 : Int), 1000001, 999999999999] _) rfl).mono ?_
    rintro e w2 ⟨x, rfl, hb2, hd2, hm⟩
    have HB2 : Hid (But g _ w2) := hb2
    have HD2 : Hid (DrawOk B g w2) := hd2
    clear hb2 hd2
    go_wp2
    go_ret
    exact ⟨_, rfl, (HB.out.alloc _).trans HB2.out, HD2.out⟩
set_option maxRecDepth 20000 in
set_option maxHeartbeats 1000000 in
theorem raw_spec {B g : Nat} {w : World} (hd : DrawOk B g w) :
    Calls Try.prog 91 #[.pointer (some ⟨g, 0, none⟩)] w fun e w' => ∃ x : Int, e = .returned (.int .i64 x) ∧ But g w w' ∧ DrawOk B g w' := by
  have HD : Hid (DrawOk B g w) := hd
  clear hd
  go_enter Try.func91, Try.ntmps91
  go_wp2_with fail
  refine (once_spec HD.out 15 (by decide) (by decide)).mono ?_
  rintro e w' ⟨b, rfl, hb, hd'⟩
  have HB : Hid (But g w w') := hb
  have HD' : Hid (DrawOk B g w') := hd'
  have hz := hd'.lt
  clear hb hd'
  cases b
  · go_wp2_with fail
    refine (num_spec HD'.out).mono ?_
    rintro e w2 ⟨x, rfl, hb2, hd2⟩
    have HB2 : Hid (But g w' w2) := hb2
    have HD2 : Hid (DrawOk B g w2) := hd2
    clear hb2 hd2
    go_wp2
    go_ret
    exact ⟨_, rfl, HB.out.trans HB2.out, HD2.out⟩
  · go_wp2_with fail
    refine (pick_spec (B := B) (g := g) (gl := w'.heap.size) (HD'.out.alloc _) 4 4 (by decide) (by decide) (by omega) (by simp) (nums_alloc w' [1000000000001, (-1000000000001 : Int), 9223372036854775807, (-9223372036854775808 : Int)] _) rfl).mono ?_
    rintro e w2 ⟨x, rfl, hb2, hd2, hm⟩
    have HB2 : Hid (But g _ w2) := hb2
    have HD2 : Hid (DrawOk B g w2) := hd2
    clear hb2 hd2
    go_wp2
    go_ret
    exact ⟨_, rfl, (HB.out.alloc _).trans HB2.out, HD2.out⟩
theorem src_of_row {w : World} {a : Option Addr} {len cap : Nat} {zs : List Int} (h : IsRow .u8 w a len cap zs) : Src w.heap.size w a len := by
  rcases h with ⟨rfl, rfl, rfl, rfl⟩ | ⟨⟨b, off, spot⟩, rfl, hl, hm, hz, hcell, hwz⟩
  · exact ⟨by omega, .inl rfl⟩
  · unfold maxLen at hm
    refine ⟨by omega, ?_⟩
    by_cases h0 : len = 0
    · exact .inl h0
    · have hc := hcell 0 (by omega)
      have hspot : spot = none := by simpa [Addr.add] using World.cell?_spot hc
      subst hspot
      refine .inr ⟨b, off, rfl, ?_, fun k hk => ?_⟩
      · by_cases hb : b < w.heap.size
        · exact hb
        · have : w.heap[b]? = none := Array.getElem?_eq_none (by omega)
          simp [Addr.add, World.cell?, this] at hc
      · have hk' : k < zs.length := by omega
        have hadd : (⟨b, off, none⟩ : Addr).add k = ⟨b, off + k, none⟩ := by unfold Addr.add; split <;> simp_all
        refine ⟨zs.getD k 0, ?_, ?_, by rw [← hadd]; exact hcell k hk'⟩
        all_goals
          have hw := hwz (zs.getD k 0) (by simp [List.getD, hk'])
          simp [Lit.wf, IntKind.min, IntKind.max, IntKind.signed, IntKind.bits] at hw
          simp
          omega
set_option maxHeartbeats 400000 in
theorem big_laws (a : Option Addr) (len cap : Nat) (w : World) : Calls Try.prog 9 #[.slice a len cap] w fun e w' => e = .returned (.bool (decide ((1048576 : Int) < (len : Int)))) ∧ w' = w := by
  go_enter Try.func9, Try.ntmps9
  go_wp2
  go_ret
  exact ⟨rfl, rfl⟩
end Go.Proofs.Ytmmjidhpmbcoiaa
namespace Go.Proofs.Ytmmjidhpmbcoiaa
open Go.RowKit
set_option linter.unusedVariables false
theorem DrawOk.grown {B g : Nat} {w w' : World} {row : Option Nat} (h : DrawOk B g w) (hg : w.grownBy w' row) (hr : ∀ k, row = some k → g < k) : DrawOk B g w' :=
  h.keep ((Below.refl B w).grown hg h.2.1 (fun k e => by have := hr k e; have := h.1; omega)) (hg.block g h.lt (fun e => by have := hr g e.symm; omega))
/-- Small numbers. -/
def Near (l : List Int) : Prop := ∀ x ∈ l, -1 ≤ x ∧ x ≤ 301
set_option maxRecDepth 20000 in
set_option maxHeartbeats 2000000 in
theorem right_spec {B g : Nat} {w : World} (hd : DrawOk B g w) :
    Calls Try.prog 110 #[.pointer (some ⟨g, 0, none⟩)] w fun e w' => ∃ v l, e = .returned v ∧ (l.length ≤ 3 ∧ Near l) ∧ NewInts w.heap.size w' v l ∧ But g w w' ∧ DrawOk B g w' := by
  have HD : Hid (DrawOk B g w) := hd
  clear hd
  go_enter Try.func110, Try.ntmps110
  go_wp2_with fail
  refine (below_small HD.out 5 (by decide) (by decide)).mono ?_
  rintro e w1 ⟨x, x1, x2, rfl, hb, hd⟩
  have HB1 : Hid (But g _ w1) := hb
  have HD1 : Hid (DrawOk B g w1) := hd
  clear hb hd
  have hx : x = 0 ∨ x = 1 ∨ x = 2 ∨ x = 3 ∨ x = 4 := by omega
  rcases hx with rfl | rfl | rfl | rfl | rfl
  · go_wp2
    go_ret
    exact ⟨_, [], rfl, ⟨by decide, by intro x h; simp at h⟩, newInts_alloc _ [] HB1.out.size (by decide), HB1.out.alloc _, DrawOk.alloc HD1.out _⟩
  · go_wp2_with fail
    refine (below_small HD1.out 6 (by decide) (by decide)).mono ?_
    rintro e w2 ⟨y, y1, y2, rfl, hb, hd⟩
    have HB2 : Hid (But g _ w2) := hb
    have HD2 : Hid (DrawOk B g w2) := hd
    clear hb hd
    go_wp2
    go_ret
    exact ⟨_, [y], rfl, ⟨by simp, by intro x h; simp at h; omega⟩, newInts_alloc _ [y] (HB1.out.trans HB2.out).size (by simp), (HB1.out.trans HB2.out).alloc _, DrawOk.alloc HD2.out _⟩
  · go_wp2_with fail
    refine (below_small HD1.out 6 (by decide) (by decide)).mono ?_
    rintro e w2 ⟨y, y1, y2, rfl, hb, hd⟩
    have HB2 : Hid (But g _ w2) := hb
    have HD2 : Hid (DrawOk B g w2) := hd
    clear hb hd
    go_wp2
    go_ret
    exact ⟨_, [y], rfl, ⟨by simp, by intro x h; simp at h; omega⟩, newInts_alloc _ [y] (HB1.out.trans HB2.out).size (by simp), (HB1.out.trans HB2.out).alloc _, DrawOk.alloc HD2.out _⟩
  · go_wp2_with fail
    refine (below_small HD1.out 4 (by decide) (by decide)).mono ?_
    rintro e w2 ⟨y, y1, y2, rfl, hb, hd⟩
    have HB2 : Hid (But g _ w2) := hb
    have HD2 : Hid (DrawOk B g w2) := hd
    clear hb hd
    go_wp2_with fail
    refine (below_small HD2.out 3 (by decide) (by decide)).mono ?_
    rintro e w3 ⟨z, z1, z2, rfl, hb, hd⟩
    have HB3 : Hid (But g _ w3) := hb
    have HD3 : Hid (DrawOk B g w3) := hd
    clear hb hd
    go_wp2
    go_ret
    exact ⟨_, [y, 1 + z], rfl, ⟨by simp, by intro x h; simp at h; omega⟩, newInts_alloc _ [y, 1 + z] ((HB1.out.trans HB2.out).trans HB3.out).size (by simp), ((HB1.out.trans HB2.out).trans HB3.out).alloc _, DrawOk.alloc HD3.out _⟩
  · go_wp2_with fail
    refine (below_small HD1.out 3 (by decide) (by decide)).mono ?_
    rintro e w2 ⟨y, y1, y2, rfl, hb, hd⟩
    have HB2 : Hid (But g _ w2) := hb
    have HD2 : Hid (DrawOk B g w2) := hd
    clear hb hd
    go_wp2_with fail
    refine (below_small HD2.out 2 (by decide) (by decide)).mono ?_
    rintro e w3 ⟨z, z1, z2, rfl, hb, hd⟩
    have HB3 : Hid (But g _ w3) := hb
    have HD3 : Hid (DrawOk B g w3) := hd
    clear hb hd
    go_wp2_with fail
    refine (below_small HD3.out 4 (by decide) (by decide)).mono ?_
    rintro e w4 ⟨u, u1, u2, rfl, hb, hd⟩
    have HB4 : Hid (But g _ w4) := hb
    have HD4 : Hid (DrawOk B g w4) := hd
    clear hb hd
    go_wp2
    go_ret
    exact ⟨_, [1 + y, 1 + z, u], rfl, ⟨by simp, by intro x h; simp at h; omega⟩, newInts_alloc _ [1 + y, 1 + z, u] (((HB1.out.trans HB2.out).trans HB3.out).trans HB4.out).size (by simp), (((HB1.out.trans HB2.out).trans HB3.out).trans HB4.out).alloc _, DrawOk.alloc HD4.out _⟩
set_option maxRecDepth 20000 in
set_option maxHeartbeats 4000000 in
theorem shape_draw {B g : Nat} {w : World} (hd : DrawOk B g w) :
    Calls Try.prog 90 #[.pointer (some ⟨g, 0, none⟩)] w fun e w' => ∃ v l, e = .returned v ∧ (l.length ≤ 4 ∧ Near l) ∧ NewInts w.heap.size w' v l ∧ But g w w' ∧ DrawOk B g w' := by
  have HD : Hid (DrawOk B g w) := hd
  have hgw := hd.lt
  clear hd
  have hi := info_int
  obtain ⟨i0, hq, z1, z2, z3⟩ : ∃ i0, Try.prog.info? 3 = some i0 ∧ i0.zero = some (.int .i64 0) ∧ i0.size = 1 ∧ i0.bytes = 8 := by
    cases hq : Try.prog.info? 3 with
    | none => rw [hq] at hi; cases hi
    | some i => rw [hq] at hi; simp at hi; exact ⟨i, rfl, hi.1, hi.2.1, hi.2.2⟩
  clear hi
  go_enter Try.func90, Try.ntmps90
  go_wp2_with fail
  refine (right_spec HD.out).mono ?_
  rintro e w1 ⟨v, l, rfl, ⟨hl, hnear⟩, hn, hb, hd⟩
  have NR : Hid (Near l) := hnear
  clear hnear
  have HN : Hid (NewInts w.heap.size w1 v l) := hn
  have HB1 : Hid (But g w w1) := hb
  have HD1 : Hid (DrawOk B g w1) := hd
  clear hn hb hd
  go_wp2_with fail
  refine (below_small HD1.out 20 (by decide) (by decide)).mono ?_
  rintro e w2 ⟨x, x1, x2, rfl, hb, hd⟩
  have HB2 : Hid (But g _ w2) := hb
  have HD2 : Hid (DrawOk B g w2) := hd
  have hz2 := hd.lt
  clear hb hd
  have HN2 : Hid (NewInts w.heap.size w2 v l) := HN.out.but HB2.out hgw
  have HB12 : Hid (But g w w2) := HB1.out.trans HB2.out
  have hsz := HB12.out.size
  clear HN
  by_cases q0 : x = 0
  · subst q0
    go_wp2_with fail
    refine (pick_spec (B := B) (g := g) (gl := w2.heap.size) (HD2.out.alloc _) 4 4 (by decide) (by decide) (by omega) (by simp) (nums_alloc w2 [(-1 : Int), 0, 300, 301] _) rfl).mono ?_
    rintro e w3 ⟨y, rfl, hb, hd, hm⟩
    have HB3 : Hid (But g _ w3) := hb
    have HD3 : Hid (DrawOk B g w3) := hd
    have hz3 := hd.lt
    clear hb hd
    have HN3 : Hid (NewInts w.heap.size w3 v l) := (HN2.out.but ((But.refl g w2).alloc _) hgw).but HB3.out hgw
    have HB13 : Hid (But g w w3) := (HB12.out.alloc _).trans HB3.out
    have hsz3 := HB13.out.size
    go_wp2_with (at_builtin; refine wpList_append_own _ rfl _ _ 25 rfl w.heap.size 3 i0 (.int .i64 0) 1 8 Try.underlying25 hq z1 z2 z3 rfl (by decide) _ _ _ rfl (World.ownsRow.alloc HN3.out _) ⟨w3.heap.size, 0, none⟩ 1 1 [.int .i64 y] rfl rfl ?c1 ?c2 ?c3 ?c4 ?c5 ?_)
    case c1 =>
      intro j u hj
      match j, hj with
      | 0, hj => simp at hj; subst hj; simp [Addr.add]
    case c2 => intro u hu; simp at hu; subst hu; rfl
    case c3 => unfold maxLen; omega
    case c4 => omega
    case c5 => simp; omega
    intro v' w4 hown hgrow _
    have hrow := HN3.out.row
    have HN4 : Hid (NewInts w.heap.size w4 v' (l ++ [y])) := by
      show World.ownsRow _ _ _ _ _ _ _
      simpa using hown
    have HB4 : Hid (But g w w4) := (HB13.out.alloc _).grown hgrow hrow
    have HD4 : Hid (DrawOk B g w4) := (HD3.out.alloc _).grown hgrow (fun k e => by have := hrow k e; omega)
    clear hown hgrow hrow
    go_wp2
    go_ret
    exact ⟨_, l ++ [y], rfl, ⟨by simp; omega, by intro x h; simp at h hm; rcases h with h | h; exact NR.out x h; omega⟩, HN4.out, HB4.out, HD4.out⟩
  by_cases q1 : x = 1
  · subst q1
    go_wp2
    go_ret
    exact ⟨_, [1, 1, 1, 1], rfl, ⟨by simp, by intro x h; simp at h; omega⟩, newInts_alloc w2 [1, 1, 1, 1] hsz (by simp), HB12.out.alloc _, HD2.out.alloc _⟩
  by_cases q2 : x = 2
  · subst q2
    go_wp2_with fail
    refine (pick_spec (B := B) (g := g) (gl := w2.heap.size) (HD2.out.alloc _) 4 4 (by decide) (by decide) (by omega) (by simp) (nums_alloc w2 [17, 20, 15, 300] _) rfl).mono ?_
    rintro e w3 ⟨y, rfl, hb, hd, hm⟩
    have HB3 : Hid (But g _ w3) := hb
    have HD3 : Hid (DrawOk B g w3) := hd
    have hz3 := hd.lt
    clear hb hd
    go_wp2_with fail
    refine (pick_spec (B := B) (g := g) (gl := w3.heap.size) (HD3.out.alloc _) 4 4 (by decide) (by decide) (by omega) (by simp) (nums_alloc w3 [15, 20, 16, 0] _) rfl).mono ?_
    rintro e w4 ⟨u, rfl, hb, hd, hm2⟩
    have HB4 : Hid (But g _ w4) := hb
    have HD4 : Hid (DrawOk B g w4) := hd
    have hz4 := hd.lt
    clear hb hd
    have HB14 : Hid (But g w w4) := (((HB12.out.alloc _).trans HB3.out).alloc _).trans HB4.out
    have hsz4 := HB14.out.size
    go_wp2
    go_ret
    exact ⟨_, [y, u], rfl, ⟨by simp, by intro x h; simp at h hm hm2; omega⟩, newInts_alloc w4 [y, u] hsz4 (by simp), HB14.out.alloc _, HD4.out.alloc _⟩
  · go_wp2
    go_ret
    exact ⟨_, l, rfl, ⟨by omega, NR.out⟩, HN2.out, HB12.out, HD2.out⟩
end Go.Proofs.Ytmmjidhpmbcoiaa
namespace Go.Proofs.Ytmmjidhpmbcoiaa
open Go.RowKit
set_option linter.unusedVariables false
set_option linter.unusedSimpArgs false
theorem srcKeep {w w' : World} {a : Option Addr} {len : Nat} (h : Src w.heap.size w a len) (hb : Below w.heap.size w w') : Src w'.heap.size w' a len := by
  obtain ⟨h1, h2⟩ := h.keep hb
  refine ⟨h1, ?_⟩
  rcases h2 with h2 | ⟨b, off, e, hB, hc⟩
  · exact .inl h2
  · exact .inr ⟨b, off, e, Nat.lt_of_lt_of_le hB hb.size, hc⟩
end Go.Proofs.Ytmmjidhpmbcoiaa
namespace Go.Proofs.Ytmmjidhpmbcoiaa
open Go.RowKit
set_option linter.unusedVariables false
set_option linter.unusedSimpArgs false
theorem But.setNew {g q : Nat} {a w : World} (h : But g a w) (hq : a.heap.size ≤ q) (o : Nat) (u : Value) : But g a (w.setCell ⟨q, o, none⟩ u) :=
  ⟨h.os, h.tape, h.output, by rw [size_setCell]; exact h.size, fun k hk hn => (Below.heap_setCell _ _ _ _ (by show k ≠ q; omega)).trans (h.block k hk hn)⟩
theorem But.of {g : Nat} {a w : World} (h : Below a.heap.size a w) : But g a w := ⟨h.os, h.tape, h.output, h.size, fun k hk _ => h.block k hk⟩
/-- Behind what keeps all that was there once but block g. -/
theorem But.on {g : Nat} {a b c : World} (h : But g a b) (k : But g b c) : But g a c := h.trans k
theorem boxBut {w w' : World} {g q : Nat} {x y : Value} {t : TypeId} (h : Box w q x y t) (hb : But g w w') (hq : q ≠ g) : Box w' q x y t := by
  unfold Box at *; rw [hb.block q (lt_of_heapA h) hq]; exact h
theorem boxGrown {w w' : World} {q : Nat} {x y : Value} {t : TypeId} {row : Option Nat} (h : Box w q x y t) (hg : w.grownBy w' row) (hr : ∀ k, row = some k → q < k) : Box w' q x y t := by
  unfold Box at *; rw [hg.block q (lt_of_heapA h) (fun e => by have := hr q e.symm; omega)]; exact h
theorem boxSet1 {w : World} {q : Nat} {x y : Value} {t : TypeId} (h : Box w q x y t) (y' : Value) : Box (w.setCell ⟨q, 1, none⟩ y') q x y' t := by
  have := heap_setCell_same w q 1 _ _ y' h
  unfold Box; simpa using this
theorem Piece.but {B C G : Nat} {w w' : World} {u : Value} {m : List Int} (h : Piece B C w u m) (hb : But G w w') (hd : G < B ∨ C ≤ G) : Piece B C w' u m := by
  obtain ⟨a, c, rfl, hle, h⟩ := h
  refine ⟨a, c, rfl, hle, ?_⟩
  rcases h with rfl | ⟨g, off, cur, t, rfl, h1, h2, hg, r⟩
  · exact .inl rfl
  · exact .inr ⟨g, off, cur, t, rfl, h1, h2, by rw [hb.block g (Array.getElem?_eq_some_iff.1 hg).1 (by omega)]; exact hg, r⟩
theorem DrawOk.but {B g q : Nat} {w w' : World} (h : DrawOk B g w) (hb : But q w w') (hq : g < q) : DrawOk B g w' := by
  have h1 := h.1
  have h2 := h.lt
  refine h.keep ⟨hb.os, hb.tape, hb.output, hb.size, fun k hk => hb.block k (by omega) (by omega)⟩ (hb.block g h2 (by omega))
set_option maxRecDepth 20000 in
set_option maxHeartbeats 4000000 in
theorem fill_draw {B g : Nat} {w : World} {s : List Int} {v : Value} (hd : DrawOk B g w) (hs : Piece (g + 1) w.heap.size w v s) (hl : s.length ≤ 4) :
    Calls Try.prog 109 #[.pointer (some ⟨g, 0, none⟩), v] w fun e w' => ∃ x y d M, e = .returned (.agg #[x, y]) ∧ (w.heap.size ≤ M ∧ M ≤ w'.heap.size) ∧ Piece w.heap.size M w' x s ∧ NewInts M w' y d ∧ (d.length : Int) ≤ 300 ∧ But g w w' ∧ DrawOk B g w' := by
  have hi := info_int
  obtain ⟨i0, hq, z1, z2, z3⟩ : ∃ i0, Try.prog.info? 3 = some i0 ∧ i0.zero = some (.int .i64 0) ∧ i0.size = 1 ∧ i0.bytes = 8 := by
    cases hq : Try.prog.info? 3 with
    | none => rw [hq] at hi; cases hi
    | some i => rw [hq] at hi; simp at hi; exact ⟨i, rfl, hi.1, hi.2.1, hi.2.2⟩
  clear hi
  have HSV : Hid (Piece (g + 1) w.heap.size w v s) := hs
  obtain ⟨a, c, rfl, hsI⟩ := hs.ints
  obtain ⟨zb1, zb2⟩ := sizeV_bd s
  have HSZ : Hid (∀ W, Ints W a s → Calls Try.prog 92 #[.slice a s.length c] W fun e w' => e = .returned (.int .i64 (sizeV s)) ∧ w' = W) := fun W h => size_spec c h
  generalize sizeV s = Z at *
  obtain ⟨v, w1, hrun, hp, hb⟩ := append_new ((hsI.alloc (.cells #[.slice none 0 0, .slice none 0 0] 32)).alloc (.cells #[] 3)) (by omega) (w.heap.size + 1) 0 c
  obtain ⟨ax, cx, rfl, _⟩ := hp.ints
  have HRUN : Hid (∀ (ty : TypeId), (Builtin.append_ #[25, 25] ty #[.slice (some ⟨w.heap.size + 1, 0, none⟩) 0 0, .slice a s.length c]).run Try.prog ((w.alloc (.cells #[.slice none 0 0, .slice none 0 0] 32)).alloc (.cells #[] 3)) = .ok (.slice ax s.length cx) w1) := hrun
  have HB1 : Hid (Below w.heap.size w w1) := bTrans (bAlloc (bAlloc (Below.refl _ _) _) _) hb
  have HD1 : Hid (DrawOk B g w1) := hd.keep (HB1.out.mono hd.2.1) (HB1.out.block g hd.lt)
  have HP1 : Hid (Piece (w.heap.size + 1) w1.heap.size w1 (.slice ax s.length cx) s) := hp.mono (by simp) (Nat.le_refl _)
  have HR1 : Hid (w1.heap[w.heap.size]? = some (.cells #[.slice none 0 0, .slice none 0 0] 32 (0, 0))) := by
    show _ = _
    rw [hb.block w.heap.size (by simp; omega), heap_alloc_old _ _ (by simp)]
    exact heap_alloc_new w _
  have HS1 : Hid (Piece (g + 1) w.heap.size w1 (.slice a s.length c) s) := HSV.out.keep HB1.out
  have hg := hd.lt
  clear hrun hp hb hs hsI hd
  go_enter Try.func109, Try.ntmps109
  go_wp2_with (at_builtin; refine wpList_append_run rfl _ _ 25 25 rfl _ _ _ rfl rfl HRUN.out ?_)
  generalize hW : World.alloc w1 (.cells #[.slice ax s.length cx, .slice none 0 0] 32) = W0
  have BW : Hid (Below w1.heap.size w1 W0) := by rw [← hW]; exact bAlloc (Below.refl _ _) _
  have X0 : Hid (Box W0 w1.heap.size (.slice ax s.length cx) (.slice none 0 0) 32) := by rw [← hW]; exact box_new w1 _ _ _
  have LW : Hid (w1.heap.size < W0.heap.size) := X0.out.lt
  have S1 : Hid (w.heap.size < w1.heap.size) := lt_of_heapA HR1.out
  have DW : Hid (DrawOk B g W0) := by rw [← hW]; exact HD1.out.alloc _
  clear hW
  go_loopw [6] (fun i w' => ∃ (k : Nat) (m : List Int) (ad : Option Addr) (cd : Nat), i = .int .i64 k ∧ k ≤ 300 ∧ m.length = k ∧ Box w' w1.heap.size (.slice ax s.length cx) (.slice ad m.length cd) 32 ∧ NewInts (w1.heap.size + 1) w' (.slice ad m.length cd) m ∧ But g w1 w' ∧ DrawOk B g w') (fun i _ => 301 - (intOf i).toNat)
  case atStart => exact ⟨0, [], none, 0, rfl, by omega, rfl, X0.out, ⟨rfl, .inl ⟨rfl, rfl⟩⟩, But.of BW.out, DW.out⟩
  case round =>
    obtain ⟨k, m, ad, cd, rfl, hk, hm, hX, hN, hB, hD⟩ := hrel
    have HX : Hid (Box wr w1.heap.size (.slice ax s.length cx) (.slice ad m.length cd) 32) := hX
    have HN : Hid (NewInts (w1.heap.size + 1) wr (.slice ad m.length cd) m) := hN
    have HB : Hid (But g w1 wr) := hB
    have HD : Hid (DrawOk B g wr) := hD
    have HM : Hid (m.length = k) := hm
    have HI : Hid (Ints wr a s) := by
      obtain ⟨a', c', e', i'⟩ := (HS1.out.but hB (.inl (by omega))).ints
      cases e'
      exact i'
    have p0 := HX.out.c0
    have p1 := HX.out.c1
    have f1 : wr.frozen? ⟨w1.heap.size, 1, none⟩ = false := free_at hX 1
    have hg1 : g < w1.heap.size := by have := S1.out; omega
    clear hX hN hB hD hm
    by_cases hlt : (k : Int) < Z
    · go_wp2_with fail
      refine (HSZ.out _ HI.out).mono ?_
      rintro r w' ⟨rfl, hw⟩
      subst w'
      go_wp2_with fail
      have HK : Hid (k + 1 ≤ maxLen ∧ (m.length + 1) * 8 ≤ 140737488355328 ∧ m.length + 1 ≤ maxLen) := by
        have := HM.out
        refine ⟨?_, ?_, ?_⟩
        · unfold maxLen; omega
        · omega
        · unfold maxLen; omega
      have HDr : Hid (DrawOk B g wr.drew) := HD.out.keep ((Below.refl B wr).drew) rfl
      go_region_law (first
        | (refine step_append_lies _ (by rfl) (.tmp 18) (.tmp 21) 25 (by rfl) (w1.heap.size + 1) 3 i0 (.int .i64 0) 1 8 Try.underlying25 hq z1 z2 z3 rfl (by decide) (.slice ad m.length cd) m.length (m.map (Value.int .i64)) (by rfl) (ownsRow_keep N3.out (bAlloc (Below.refl _ _) _)) ⟨w3.heap.size, 0, none⟩ 1 1 [.int .i64 z] (by rfl) rfl (World.news_of_block (cs := #[.int .i64 z]) (heap_alloc_new w3 _)) (by simp [Value.oneCell']) (by decide) HK.out.2.2 HK.out.2.1 (by have := X3.out.lt; simp; omega) (w3.heap.size + 1) (by simp) ?_; intro g4 cap4 w4 hown hgrow hat hlt4; have X4 : Hid (Box w4 w1.heap.size (.slice ax s.length cx) (.slice ad m.length cd) 32) := boxGrown (X3.out.keep (bAlloc (Below.refl _ _) _)) hgrow (fun k e => N3.out.row k e); have N4 : Hid (NewInts (w1.heap.size + 1) w4 (.slice (some ⟨g4, 0, none⟩) (m.length + 1) cap4) (m ++ [z])) := (by show World.ownsRow _ _ _ _ _ _ _; simpa using hown); have B4 : Hid (But g w1 w4) := ((HB.out.trans B3.out).alloc _).grown hgrow (fun k e => by have := N3.out.row k e; omega); have D4 : Hid (DrawOk B g w4) := (D3.out.alloc _).grown hgrow (fun k e => by have := N3.out.row k e; omega); have y1 := X4.out.c1; have yf : w4.frozen? ⟨w1.heap.size, 1, none⟩ = false := free_at X4.out 1; clear hown hgrow hat hlt4)
        | (go_simp; go_at_call 111; refine (num_spec (B := B) (g := g) HDr.out).mono ?_; rintro r w3 ⟨z, rfl, hb3, hd3⟩; have B3 : Hid (But g wr w3) := But.trans ((But.refl g wr).drewN 1) hb3; have D3 : Hid (DrawOk B g w3) := hd3; have X3 : Hid (Box w3 w1.heap.size (.slice ax s.length cx) (.slice ad m.length cd) 32) := boxBut HX.out B3.out (by omega); have x1 := X3.out.c1; have x2 : (w3.alloc (.cells #[.int .i64 z] 3)).cell? ⟨w1.heap.size, 1, none⟩ = some (.slice ad m.length cd) := (X3.out.keep (bAlloc (Below.refl _ _) _)).c1; have xf : w3.frozen? ⟨w1.heap.size, 1, none⟩ = false := free_at X3.out 1; have N3 : Hid (NewInts (w1.heap.size + 1) w3 (.slice ad m.length cd) m) := HN.out.but B3.out (by omega); clear hb3 hd3; go_simp))
      all_goals
        go_wp2
        go_roundw
        case rel =>
          refine ⟨k + 1, m ++ [z], some ⟨g4, 0, none⟩, cap4, by go_num, by omega, by have := HM.out; simp; omega, ?_, ?_, ?_, ?_⟩
          · have := boxSet1 X4.out (.slice (some ⟨g4, 0, none⟩) (m.length + 1) cap4)
            simpa using this
          · have := N4.out.but ((But.refl w1.heap.size w4).setCell 1 (.slice (some ⟨g4, 0, none⟩) (m.length + 1) cap4)) (by omega)
            simpa using this
          · exact B4.out.setNew (Nat.le_refl _) 1 _
          · exact D4.out.but ((But.refl w1.heap.size w4).setCell 1 _) hg1
        case measure => simp [intOf]; omega
    · go_wp2_with fail
      refine (HSZ.out _ HI.out).mono ?_
      rintro r w' ⟨rfl, hw⟩
      subst w'
      have S1' := S1.out
      have hR : wr.heap[w.heap.size]? = some (.cells #[.slice none 0 0, .slice none 0 0] 32 (0, 0)) := by
        rw [HB.out.block w.heap.size S1.out (by omega)]; exact HR1.out
      have k0 : wr.cell? ⟨w.heap.size, 0, none⟩ = some (.slice none 0 0) := cell_at hR rfl
      have k1 : wr.cell? ⟨w.heap.size, 1, none⟩ = some (.slice none 0 0) := cell_at hR rfl
      have f0 : wr.frozen? ⟨w.heap.size, 0, none⟩ = false := free_at hR 0
      have f1 : wr.frozen? ⟨w.heap.size, 1, none⟩ = false := free_at hR 1
      have HR : Hid (((wr.setCell ⟨w.heap.size, 0, none⟩ (.slice ax s.length cx)).setCell ⟨w.heap.size, 1, none⟩ (.slice ad m.length cd)).heap[w.heap.size]? = some (.cells #[.slice ax s.length cx, .slice ad m.length cd] 32 (0, 0))) := arr_stored hR
      clear hR
      go_wp2_with fail
      refine bodyPost_ret (v := .agg #[.slice ax s.length cx, .slice ad m.length cd]) (results_arr rfl _ _ w.heap.size _ _ rfl HR.out) rfl ?_
      have C1 : But w.heap.size wr ((wr.setCell ⟨w.heap.size, 0, none⟩ (.slice ax s.length cx)).setCell ⟨w.heap.size, 1, none⟩ (.slice ad m.length cd)) := ((But.refl _ _).setCell 0 _).setCell 1 _
      refine ⟨_, _, m, w1.heap.size, rfl, ⟨by omega, by have := HB.out.size; simp [size_setCell]; omega⟩, ?_, ?_, by have := HM.out; omega, ?_, ?_⟩
      · exact ((HP1.out.but HB.out (.inl (by omega))).but C1 (.inl (by omega))).mono (by omega) (Nat.le_refl _)
      · exact (HN.out.but C1 (by omega)).mono (by omega)
      · exact ((But.of HB1.out).trans HB.out |>.setNew (Nat.le_refl _) 0 _).setNew (Nat.le_refl _) 1 _
      · exact HD.out.but C1 hg
end Go.Proofs.Ytmmjidhpmbcoiaa
namespace Go.Proofs.Ytmmjidhpmbcoiaa
open Go.RowKit
set_option linter.unusedVariables false
set_option linter.unusedSimpArgs false
set_option maxHeartbeats 2000000 in
/-- A number from 0 up to below n is drawn. -/
theorem below_any {B g : Nat} {w : World} (hd : DrawOk B g w) (n : Int) (n0 : 0 < n) :
    Calls Try.prog 42 #[.pointer (some ⟨g, 0, none⟩), .int .i64 n] w fun e w' => ∃ x : Int, 0 ≤ x ∧ x < n ∧ e = .returned (.int .i64 x) ∧ But g w w' ∧ DrawOk B g w' := by
  by_cases n1 : n ≤ 256
  · exact below_small hd n n0 n1
  have HD : Hid (DrawOk B g w) := hd
  clear hd
  have hn : ¬ n ≤ 0 := by omega
  go_enter Try.func42, Try.ntmps42
  go_wp2_with fail
  refine (byte_spec HD.out).mono ?_
  rintro e w1 ⟨x, x1, x2, rfl, hb, hd'⟩
  have HB1 : Hid (But g w w1) := hb
  have HD1 : Hid (DrawOk B g w1) := hd'
  clear hb hd'
  go_wp2_with fail
  refine (byte_spec HD1.out).mono ?_
  rintro e w2 ⟨y, y1, y2, rfl, hb, hd'⟩
  have HB2 : Hid (But g w w2) := HB1.out.trans hb
  have HD2 : Hid (DrawOk B g w2) := hd'
  clear hb hd'
  go_wp2_with fail
  refine (byte_spec HD2.out).mono ?_
  rintro e w3 ⟨z, z1, z2, rfl, hb, hd'⟩
  have HB3 : Hid (But g w w3) := HB2.out.trans hb
  have HD3 : Hid (DrawOk B g w3) := hd'
  clear hb hd'
  go_wp2_with fail
  refine (byte_spec HD3.out).mono ?_
  rintro e w4 ⟨u, u1, u2, rfl, hb, hd'⟩
  have HB4 : Hid (But g w w4) := HB3.out.trans hb
  have HD4 : Hid (DrawOk B g w4) := hd'
  clear hb hd'
  go_wp2
  go_ret
  exact ⟨_, Int.emod_nonneg _ (by omega), Int.emod_lt_of_pos _ n0, rfl, HB4.out, HD4.out⟩
set_option maxRecDepth 20000 in
set_option maxHeartbeats 2000000 in
/-- l3DrawRight. -/
theorem rightA_draw {B g : Nat} {w : World} (hd : DrawOk B g w) :
    Calls Try.prog 89 #[.pointer (some ⟨g, 0, none⟩)] w fun e w' => ∃ x y s d M, e = .returned (.agg #[x, y]) ∧ (w.heap.size < M ∧ M ≤ w'.heap.size) ∧ Piece (w.heap.size + 1) M w' x s ∧ NewInts M w' y d ∧ s.length ≤ 4 ∧ d.length ≤ 300 ∧ But g w w' ∧ DrawOk B g w' := by
  have hg := hd.lt
  have HD : Hid (DrawOk B g (w.alloc (.cells #[.slice none 0 0, .slice none 0 0] 32))) := hd.alloc _
  have HR0 : Hid ((w.alloc (.cells #[.slice none 0 0, .slice none 0 0] 32)).heap[w.heap.size]? = some (.cells #[.slice none 0 0, .slice none 0 0] 32 (0, 0))) := heap_alloc_new w _
  have HB0 : Hid (But g w (w.alloc (.cells #[.slice none 0 0, .slice none 0 0] 32))) := (But.refl g w).alloc _
  clear hd
  go_enter Try.func89, Try.ntmps89
  go_wp2_with fail
  refine (right_spec HD.out).mono ?_
  rintro e w1 ⟨v, s, rfl, ⟨hl, _⟩, hN, hb, hd'⟩
  have hsz := hb.size
  simp at hsz
  have HR1 : Hid (w1.heap[w.heap.size]? = some (.cells #[.slice none 0 0, .slice none 0 0] 32 (0, 0))) := (hb.block w.heap.size (by simp) (by omega)).trans HR0.out
  have HB1 : Hid (But g w w1) := HB0.out.trans hb
  have HD1 : Hid (DrawOk B g w1) := hd'
  have HP : Hid (Piece (g + 1) w1.heap.size w1 v s) := hN.piece.mono (by simp; omega) (Nat.le_refl _)
  clear hb hd' hN
  go_wp2_with fail
  refine (fill_draw HD1.out HP.out (by omega)).mono ?_
  rintro e w2 ⟨x, y, d, M, rfl, ⟨hM, hM2⟩, hP, hN, hdl, hb, hd'⟩
  have hR : w2.heap[w.heap.size]? = some (.cells #[.slice none 0 0, .slice none 0 0] 32 (0, 0)) := (hb.block w.heap.size (by omega) (by omega)).trans HR1.out
  have k0 : w2.cell? ⟨w.heap.size, 0, none⟩ = some (.slice none 0 0) := cell_at hR rfl
  have k1 : w2.cell? ⟨w.heap.size, 1, none⟩ = some (.slice none 0 0) := cell_at hR rfl
  have f0 : w2.frozen? ⟨w.heap.size, 0, none⟩ = false := free_at hR 0
  have f1 : w2.frozen? ⟨w.heap.size, 1, none⟩ = false := free_at hR 1
  have HR : Hid (((w2.setCell ⟨w.heap.size, 0, none⟩ x).setCell ⟨w.heap.size, 1, none⟩ y).heap[w.heap.size]? = some (.cells #[x, y] 32 (0, 0))) := arr_stored hR
  have HP2 : Hid (Piece w1.heap.size M w2 x s) := hP
  have HN2 : Hid (NewInts M w2 y d) := hN
  have HB2 : Hid (But g w w2) := HB1.out.trans hb
  have HD2 : Hid (DrawOk B g w2) := hd'
  obtain ⟨xa, xc, hx, _⟩ := hP.ints
  obtain ⟨ya, yc, hy, _⟩ := hN.ints
  subst hx hy
  clear hR hP hN hb hd'
  go_wp2_with fail
  refine bodyPost_ret (v := .agg #[_, _]) (results_arr rfl _ _ w.heap.size _ _ rfl HR.out) rfl ?_
  have C1 : ∀ x y, But w.heap.size w2 ((w2.setCell ⟨w.heap.size, 0, none⟩ x).setCell ⟨w.heap.size, 1, none⟩ y) := fun x y => ((But.refl _ _).setCell 0 _).setCell 1 _
  refine ⟨_, _, s, d, M, rfl, ⟨by omega, by simp [size_setCell]; omega⟩, ?_, ?_, by omega, by omega, ?_, ?_⟩
  · exact (HP2.out.but (C1 _ _) (.inl (by omega))).mono (by omega) (Nat.le_refl _)
  · exact HN2.out.but (C1 _ _) (by omega)
  · exact (HB2.out.setNew (Nat.le_refl _) 0 _).setNew (Nat.le_refl _) 1 _
  · exact HD2.out.but (C1 _ _) hg
end Go.Proofs.Ytmmjidhpmbcoiaa
namespace Go.Proofs.Ytmmjidhpmbcoiaa
open Go.RowKit
set_option linter.unusedVariables false
set_option linter.unusedSimpArgs false
theorem boxGrownNe {w w' : World} {q : Nat} {x y : Value} {t : TypeId} {row : Option Nat} (h : Box w q x y t) (hg : w.grownBy w' row) (hr : ∀ k, row = some k → k ≠ q) : Box w' q x y t := by
  unfold Box at *; rw [hg.block q (lt_of_heapA h) (fun e => hr q e.symm rfl)]; exact h
theorem boxSet0 {w : World} {q : Nat} {x y : Value} {t : TypeId} (h : Box w q x y t) (x' : Value) : Box (w.setCell ⟨q, 0, none⟩ x') q x' y t := by
  have := heap_setCell_same w q 0 _ _ x' h
  unfold Box; simpa using this
theorem Piece.grownC {B C : Nat} {w w' : World} {u : Value} {m : List Int} {row : Option Nat} (h : Piece B C w u m) (hg : w.grownBy w' row) (hn : ∀ g, row = Option.some g → C ≤ g) : Piece B C w' u m := by
  obtain ⟨a, c, rfl, hle, h⟩ := h
  refine ⟨a, c, rfl, hle, ?_⟩
  rcases h with rfl | ⟨g, off, cur, t, rfl, h1, h2, hh, r⟩
  · exact .inl rfl
  · exact .inr ⟨g, off, cur, t, rfl, h1, h2, by rw [hg.block g (lt_of_heapA hh) (fun e => by have := hn g e.symm; omega)]; exact hh, r⟩
theorem NewInts.lt {B : Nat} {w : World} {v : Value} {l : List Int} (h : NewInts B w v l) {g : Nat} (hg : v.ownBlock = some g) : g < w.heap.size := by
  obtain ⟨h1, h2⟩ := h
  rcases h2 with ⟨rfl, _⟩ | ⟨g', cap, cur, rfl, hB, hh, _⟩
  · simp [Value.ownBlock] at hg
  · simp [Value.ownBlock] at hg
    subst hg
    exact lt_of_heapA hh
theorem NewInts.butNe {B q p n c : Nat} {w w' : World} {l : List Int} (h : NewInts B w (.slice (some ⟨p, 0, none⟩) n c) l) (hb : But q w w') (hne : p ≠ q) : NewInts B w' (.slice (some ⟨p, 0, none⟩) n c) l := by
  obtain ⟨h1, h2⟩ := h
  refine ⟨h1, ?_⟩
  rcases h2 with ⟨e, h2⟩ | ⟨k, cap, cur, e, hk, hh, r⟩
  · cases e
  · cases e
    exact .inr ⟨_, _, cur, rfl, hk, by rw [hb.block _ (Array.getElem?_eq_some_iff.1 hh).1 hne]; exact hh, r⟩
/-- A number of a piece is written. -/
theorem piece_set {B C k off n c : Nat} {w : World} {l : List Int} (h : Piece B C w (.slice (some ⟨k, off, none⟩) n c) l) (i : Nat) (z : Int) : Piece B C (w.setCell ⟨k, off + i, none⟩ (.int .i64 z)) (.slice (some ⟨k, off, none⟩) n c) (l.set i z) := by
  obtain ⟨a, c', e, hle, h⟩ := h
  cases e
  refine ⟨some ⟨k, off, none⟩, c, by simp, by simpa using hle, ?_⟩
  rcases h with rfl | ⟨g, o, cur, t, e, h1, h2, hh, r⟩
  · exact .inl (by simp)
  · cases e
    refine .inr ⟨k, off, _, t, rfl, h1, h2, heap_setCell_same w k (off + i) _ _ _ hh, fun j hj => ?_⟩
    have hj' : j < l.length := by simpa using hj
    have := r j hj'
    have hsz : off + j < cur.size := (Array.getElem?_eq_some_iff.1 this).1
    by_cases hij : i = j
    · subst hij
      simp [Array.getElem?_setIfInBounds, hsz, List.getD, hj']
    · rw [Array.getElem?_setIfInBounds, if_neg (by omega), this]
      simp [List.getD, List.getElem?_set, hij]
theorem piece_cell {B C k n c : Nat} {w : World} {l : List Int} (h : Piece B C w (.slice (some ⟨k, 0, none⟩) n c) l) {i : Nat} (hi : i < l.length) : w.cell? ⟨k, i, none⟩ = some (.int .i64 (l.getD i 0)) := by
  obtain ⟨a, c', e, hle, h⟩ := h
  cases e
  rcases h with rfl | ⟨g, o, cur, t, e, h1, h2, hh, r⟩
  · simp at hi
  · cases e
    have := r i hi
    rw [Nat.zero_add] at this
    simp only [World.cell?, hh]
    simpa using this
theorem piece_free {B C k n c : Nat} {w : World} {l : List Int} (h : Piece B C w (.slice (some ⟨k, 0, none⟩) n c) l) {i : Nat} (hi : i < l.length) : w.frozen? ⟨k, i, none⟩ = false := by
  obtain ⟨a, c', e, hle, h⟩ := h
  cases e
  rcases h with rfl | ⟨g, o, cur, t, e, h1, h2, hh, r⟩
  · simp at hi
  · cases e
    exact free_at hh i
/-- What the store of the answer leaves. -/
theorem draw_end {B g : Nat} {w W : World} {x y : Value} {s d : List Int} {x0 y0 : Value} (hR : W.heap[w.heap.size]? = some (.cells #[x0, y0] 32 (0, 0))) (hg : g < w.heap.size)
    (px : Piece (w.heap.size + 1) W.heap.size W x s) (py : Piece (w.heap.size + 1) W.heap.size W y d) (ha : Apart x y) (hb : But g w W) (hd : DrawOk B g W) :
    ((W.setCell ⟨w.heap.size, 0, none⟩ x).setCell ⟨w.heap.size, 1, none⟩ y).heap[w.heap.size]? = some (.cells #[x, y] 32 (0, 0)) ∧
    Arr w.heap.size ((W.setCell ⟨w.heap.size, 0, none⟩ x).setCell ⟨w.heap.size, 1, none⟩ y).heap.size ((W.setCell ⟨w.heap.size, 0, none⟩ x).setCell ⟨w.heap.size, 1, none⟩ y) (.agg #[x, y]) s d ∧
    But g w ((W.setCell ⟨w.heap.size, 0, none⟩ x).setCell ⟨w.heap.size, 1, none⟩ y) ∧ DrawOk B g ((W.setCell ⟨w.heap.size, 0, none⟩ x).setCell ⟨w.heap.size, 1, none⟩ y) := by
  have C1 : But w.heap.size W ((W.setCell ⟨w.heap.size, 0, none⟩ x).setCell ⟨w.heap.size, 1, none⟩ y) := ((But.refl _ _).setCell 0 _).setCell 1 _
  refine ⟨arr_stored hR, ⟨x, y, rfl, ?_, ?_, ha⟩, (hb.setNew (Nat.le_refl _) 0 _).setNew (Nat.le_refl _) 1 _, hd.but C1 hg⟩
  · exact (px.but C1 (.inl (by omega))).mono (by omega) C1.size
  · exact (py.but C1 (.inl (by omega))).mono (by omega) C1.size
/-- What l3Draw knows where its switch has ended. -/
structure Drawn (B g : Nat) (w W : World) (q : Nat) (x y : Value) (s d : List Int) : Prop where
  r : W.heap[w.heap.size]? = some (.cells #[.slice none 0 0, .slice none 0 0] 32 (0, 0))
  box : Box W q x y 32
  hg : g < w.heap.size
  px : Piece (w.heap.size + 1) W.heap.size W x s
  py : Piece (w.heap.size + 1) W.heap.size W y d
  ap : Apart x y
  ls : s.length ≤ 4
  ld : d.length ≤ 301
  but : But g w W
  ok : DrawOk B g W
set_option maxRecDepth 20000 in
set_option maxHeartbeats 4000000 in
/-- l3Draw. -/
theorem draw_draw {B g : Nat} {w : World} (hd : DrawOk B g w) :
    Calls Try.prog 52 #[.pointer (some ⟨g, 0, none⟩)] w fun e w' => ∃ v s d, e = .returned v ∧ Arr w.heap.size w'.heap.size w' v s d ∧ s.length ≤ 4 ∧ d.length ≤ 301 ∧ But g w w' ∧ DrawOk B g w' := by
  have hi := info_int
  obtain ⟨i0, hq, z1, z2, z3⟩ : ∃ i0, Try.prog.info? 3 = some i0 ∧ i0.zero = some (.int .i64 0) ∧ i0.size = 1 ∧ i0.bytes = 8 := by
    cases hq : Try.prog.info? 3 with
    | none => rw [hq] at hi; cases hi
    | some i => rw [hq] at hi; simp at hi; exact ⟨i, rfl, hi.1, hi.2.1, hi.2.2⟩
  clear hi
  have hmk0 : ∀ w, (Instr.makeSlice 25 (.int .i64 300) (.int .i64 300)).run Try.prog w = .ok (.slice (some ⟨w.heap.size, 0, none⟩) 300 300) (w.alloc (.cells (vals (List.replicate 300 0)) 3)) := make_ints 300 (by omega)
  have hmk1 : ∀ w, (Instr.makeSlice 25 (.int .i64 301) (.int .i64 301)).run Try.prog w = .ok (.slice (some ⟨w.heap.size, 0, none⟩) 301 301) (w.alloc (.cells (vals (List.replicate 301 0)) 3)) := make_ints 301 (by omega)
  generalize hR0 : List.replicate 300 (0 : Int) = R0 at hmk0
  generalize hR1 : List.replicate 301 (0 : Int) = R1 at hmk1
  have LR0 : Hid (R0.length = 300) := by show _ = _; rw [← hR0]; simp
  have LR1 : Hid (R1.length = 301) := by show _ = _; rw [← hR1]; simp
  clear hR0 hR1
  have hg := hd.lt
  have HD : Hid (DrawOk B g (w.alloc (.cells #[.slice none 0 0, .slice none 0 0] 32))) := hd.alloc _
  have HR0 : Hid ((w.alloc (.cells #[.slice none 0 0, .slice none 0 0] 32)).heap[w.heap.size]? = some (.cells #[.slice none 0 0, .slice none 0 0] 32 (0, 0))) := heap_alloc_new w _
  have HB0 : Hid (But g w (w.alloc (.cells #[.slice none 0 0, .slice none 0 0] 32))) := (But.refl g w).alloc _
  clear hd
  go_enter Try.func52, Try.ntmps52
  go_wp2_with fail
  refine (rightA_draw HD.out).mono ?_
  rintro e w1 ⟨x, y, s, d, M, rfl, ⟨hM, hML⟩, hP, hN, hls, hld, hb, hd'⟩
  simp at hM
  have HM0 : w.heap.size + 1 < M := by omega
  obtain ⟨xa, xc, hx, _⟩ := hP.ints
  obtain ⟨ya, yc, hy, _⟩ := hN.ints
  subst hx hy
  have HR1 : Hid (w1.heap[w.heap.size]? = some (.cells #[.slice none 0 0, .slice none 0 0] 32 (0, 0))) := (hb.block w.heap.size (by simp) (by omega)).trans HR0.out
  have HB1 : Hid (But g w w1) := HB0.out.trans hb
  have HD1 : Hid (DrawOk B g w1) := hd'
  have HP1 : Hid (Piece (w.heap.size + 1) M w1 (.slice xa s.length xc) s) := hP.mono (by simp) (Nat.le_refl _)
  have HN1 : Hid (NewInts M w1 (.slice ya d.length yc) d) := hN
  have S1 : w.heap.size < w1.heap.size := lt_of_heapA HR1.out
  clear hb hd' hP hN hM
  go_wp2_with fail
  generalize hW : World.alloc w1 (.cells #[.slice xa s.length xc, .slice ya d.length yc] 32) = W0
  have BW : Hid (Below w1.heap.size w1 W0) := by rw [← hW]; exact bAlloc (Below.refl _ _) _
  have X0 : Hid (Box W0 w1.heap.size (.slice xa s.length xc) (.slice ya d.length yc) 32) := by rw [← hW]; exact box_new w1 _ _ _
  have DW : Hid (DrawOk B g W0) := by rw [← hW]; exact HD1.out.alloc _
  clear hW
  refine (below_small DW.out 20 (by decide) (by decide)).mono ?_
  rintro e w2 ⟨n, n1, n2, rfl, hb, hd'⟩
  have HB12 : Hid (But g w1 w2) := (But.of BW.out).trans hb
  have HB2 : Hid (But g w w2) := HB1.out.trans HB12.out
  have HD2 : Hid (DrawOk B g w2) := hd'
  have hX2 : Box w2 w1.heap.size (.slice xa s.length xc) (.slice ya d.length yc) 32 := boxBut X0.out hb (by omega)
  have HX2 : Hid (Box w2 w1.heap.size (.slice xa s.length xc) (.slice ya d.length yc) 32) := hX2
  have hR2 : w2.heap[w.heap.size]? = some (.cells #[.slice none 0 0, .slice none 0 0] 32 (0, 0)) := (HB12.out.block w.heap.size S1 (by omega)).trans HR1.out
  have HR2 : Hid (w2.heap[w.heap.size]? = some (.cells #[.slice none 0 0, .slice none 0 0] 32 (0, 0))) := hR2
  have HP2 : Hid (Piece (w.heap.size + 1) M w2 (.slice xa s.length xc) s) := HP1.out.but HB12.out (.inl (by omega))
  have HN2 : Hid (NewInts M w2 (.slice ya d.length yc) d) := HN1.out.but HB12.out (by omega)
  have HY2 : Hid (Piece M w1.heap.size w2 (.slice ya d.length yc) d) := HN1.out.piece.but HB12.out (.inl (by omega))
  have L2 := hX2.lt
  have c0 := hX2.c0
  have c1 := hX2.c1
  have e0 : w2.frozen? ⟨w1.heap.size, 0, none⟩ = false := free_at hX2 0
  have e1 : w2.frozen? ⟨w1.heap.size, 1, none⟩ = false := free_at hX2 1
  have k0 : w2.cell? ⟨w.heap.size, 0, none⟩ = some (.slice none 0 0) := cell_at hR2 rfl
  have k1 : w2.cell? ⟨w.heap.size, 1, none⟩ = some (.slice none 0 0) := cell_at hR2 rfl
  have f0 : w2.frozen? ⟨w.heap.size, 0, none⟩ = false := free_at hR2 0
  have f1 : w2.frozen? ⟨w.heap.size, 1, none⟩ = false := free_at hR2 1
  have hne : w1.heap.size ≠ w.heap.size := by omega
  clear hb hd' hX2 hR2
  by_cases m0 : n = 0
  · subst m0
    clear c0 e0 e1 k0 k1 f0 f1
    go_wp2_with (at_builtin; refine wpList_append_lies _ rfl _ _ 25 rfl M 3 i0 (.int .i64 0) 1 8 Try.underlying25 hq z1 z2 z3 rfl (by decide) (.slice ya d.length yc) d.length (d.map (Value.int .i64)) rfl (ownsRow_keep HN2.out (bAlloc (Below.refl _ _) _)) ⟨w2.heap.size, 0, none⟩ 1 1 [.int .i64 1] rfl rfl (World.news_of_block (cs := #[.int .i64 1]) (heap_alloc_new w2 _)) (by simp [Value.oneCell']) (by decide) ?c1 ?c2 ?c3 (w2.heap.size + 1) (by simp) ?_)
    case c1 => unfold maxLen; omega
    case c2 => omega
    case c3 => simp; omega
    intro g4 cap4 w3 hown hgrow hat hlt4
    have rw0 : ∀ k, (Value.slice ya d.length yc).ownBlock = some k → M ≤ k ∧ k < w1.heap.size := fun k e => ⟨HN1.out.row k e, HN1.out.lt e⟩
    have hX3 : Box w3 w1.heap.size (.slice xa s.length xc) (.slice ya d.length yc) 32 := boxGrownNe (HX2.out.keep (bAlloc (Below.refl _ _) _)) hgrow (fun k e => by have := rw0 k e; omega)
    have hR3 : w3.heap[w.heap.size]? = some (.cells #[.slice none 0 0, .slice none 0 0] 32 (0, 0)) := (hgrow.block w.heap.size (by simp; omega) (fun e => by have := rw0 _ e.symm; omega)).trans ((Below.heap_alloc _ _ _ (by omega)).trans HR2.out)
    have c0 := hX3.c0
    have c1 := hX3.c1
    have e0 : w3.frozen? ⟨w1.heap.size, 0, none⟩ = false := free_at hX3 0
    have e1 : w3.frozen? ⟨w1.heap.size, 1, none⟩ = false := free_at hX3 1
    have k0 : w3.cell? ⟨w.heap.size, 0, none⟩ = some (.slice none 0 0) := cell_at hR3 rfl
    have k1 : w3.cell? ⟨w.heap.size, 1, none⟩ = some (.slice none 0 0) := cell_at hR3 rfl
    have f0 : w3.frozen? ⟨w.heap.size, 0, none⟩ = false := free_at hR3 0
    have f1 : w3.frozen? ⟨w.heap.size, 1, none⟩ = false := free_at hR3 1
    have E1 : Hid (Drawn B g w (w3.setCell ⟨w1.heap.size, 1, none⟩ (.slice (some ⟨g4, 0, none⟩) (d.length + 1) cap4)) w1.heap.size (.slice xa s.length xc) (.slice (some ⟨g4, 0, none⟩) (d.length + 1) cap4) s (d ++ [1])) := by
      have C : But w1.heap.size w3 (w3.setCell ⟨w1.heap.size, 1, none⟩ (.slice (some ⟨g4, 0, none⟩) (d.length + 1) cap4)) := (But.refl _ _).setCell 1 _
      have N4 : NewInts M w3 (.slice (some ⟨g4, 0, none⟩) (d.length + 1) cap4) (d ++ [1]) := by show World.ownsRow _ _ _ _ _ _ _; simpa using hown
      have hne4 : g4 ≠ w1.heap.size := by
        rcases hat with h | h
        · have := rw0 _ h; omega
        · omega
      have p2 := (N4.butNe C hne4).piece
      have p1 : Piece (w.heap.size + 1) M _ (.slice xa s.length xc) s := ((HP2.out.keep (bAlloc (Below.refl _ _) _)).grownC hgrow (fun k e => (rw0 k e).1)).but C (.inr hML)
      have z4 := hgrow.size
      have z5 := C.size
      simp at z4
      exact ⟨(C.block w.heap.size (by omega) (by omega)).trans hR3, boxSet1 hX3 _, hg, p1.mono (by omega) (by omega), p2.mono (by omega) (Nat.le_refl _), p1.apart p2 (.inl (Nat.le_refl _)), hls, by simp; omega, ((HB2.out.alloc _).grown hgrow (fun k e => by have := rw0 k e; omega)).setNew (by omega) 1 _, ((HD2.out.alloc _).grown hgrow (fun k e => by have := rw0 k e; omega)).but C (by omega)⟩
    clear hown hgrow hat hlt4 rw0 hX3 hR3
    go_wp2_with fail
    obtain ⟨a1, a2, a3, a4⟩ := draw_end E1.out.r E1.out.hg E1.out.px E1.out.py E1.out.ap E1.out.but E1.out.ok
    exact bodyPost_ret (v := .agg #[_, _]) (results_arr rfl _ _ w.heap.size _ _ rfl a1) rfl ⟨_, _, _, rfl, a2, E1.out.ls, E1.out.ld, a3, a4⟩
  by_cases m1 : n = 1
  · subst m1
    clear c0 c1 e0 e1 k0 k1 f0 f1
    go_wp2_with fail
    refine (shape_draw HD2.out).mono ?_
    rintro e w3 ⟨v, l, rfl, ⟨hl, _⟩, hN, hb, hd'⟩
    obtain ⟨va, vc, hv, _⟩ := hN.ints
    subst hv
    have hX3 : Box w3 w1.heap.size (.slice xa s.length xc) (.slice ya d.length yc) 32 := boxBut HX2.out hb (by omega)
    have hR3 : w3.heap[w.heap.size]? = some (.cells #[.slice none 0 0, .slice none 0 0] 32 (0, 0)) := (hb.block w.heap.size (by omega) (by omega)).trans HR2.out
    have c0 := hX3.c0
    have c1 := hX3.c1
    have e0 : w3.frozen? ⟨w1.heap.size, 0, none⟩ = false := free_at hX3 0
    have e1 : w3.frozen? ⟨w1.heap.size, 1, none⟩ = false := free_at hX3 1
    have k0 : w3.cell? ⟨w.heap.size, 0, none⟩ = some (.slice none 0 0) := cell_at hR3 rfl
    have k1 : w3.cell? ⟨w.heap.size, 1, none⟩ = some (.slice none 0 0) := cell_at hR3 rfl
    have f0 : w3.frozen? ⟨w.heap.size, 0, none⟩ = false := free_at hR3 0
    have f1 : w3.frozen? ⟨w.heap.size, 1, none⟩ = false := free_at hR3 1
    have E1 : Hid (Drawn B g w (w3.setCell ⟨w1.heap.size, 0, none⟩ (.slice va l.length vc)) w1.heap.size (.slice va l.length vc) (.slice ya d.length yc) l d) := by
      have C : But w1.heap.size w3 (w3.setCell ⟨w1.heap.size, 0, none⟩ (.slice va l.length vc)) := (But.refl _ _).setCell 0 _
      have p1 : Piece w2.heap.size w3.heap.size _ (.slice va l.length vc) l := hN.piece.but C (.inl (by omega))
      have p2 : Piece M w1.heap.size _ (.slice ya d.length yc) d := (HY2.out.but hb (.inl (by omega))).but C (.inr (by omega))
      have z3 := hb.size
      have z4 := C.size
      exact ⟨(C.block w.heap.size (by omega) (by omega)).trans hR3, boxSet0 hX3 _, hg, p1.mono (by omega) z4, p2.mono (by omega) (by omega), p1.apart p2 (.inr (by omega)), hl, by omega, (HB2.out.trans hb).setNew (by omega) 0 _, hd'.but C (by omega)⟩
    clear hb hd' hX3 hR3 hN
    go_wp2_with fail
    obtain ⟨a1, a2, a3, a4⟩ := draw_end E1.out.r E1.out.hg E1.out.px E1.out.py E1.out.ap E1.out.but E1.out.ok
    exact bodyPost_ret (v := .agg #[_, _]) (results_arr rfl _ _ w.heap.size _ _ rfl a1) rfl ⟨_, _, _, rfl, a2, E1.out.ls, E1.out.ld, a3, a4⟩
  by_cases m2 : n = 2
  · subst m2
    by_cases hd0 : d.length = 0
    · have E0 : Drawn B g w w2 w1.heap.size (.slice xa s.length xc) (.slice ya d.length yc) s d :=
        ⟨HR2.out, HX2.out, hg, HP2.out.mono (Nat.le_refl _) (by omega), HY2.out.mono (by omega) (by omega), HP2.out.apart HY2.out (.inl (by omega)), hls, by omega, HB2.out, HD2.out⟩
      rw [hd0] at E0
      have E1 : Hid (Drawn B g w w2 w1.heap.size (.slice xa s.length xc) (.slice ya 0 yc) s d) := E0
      clear E0
      go_wp2_with fail
      obtain ⟨a1, a2, a3, a4⟩ := draw_end E1.out.r E1.out.hg E1.out.px E1.out.py E1.out.ap E1.out.but E1.out.ok
      exact bodyPost_ret (v := .agg #[_, _]) (results_arr rfl _ _ w.heap.size _ _ rfl a1) rfl ⟨_, _, _, rfl, a2, E1.out.ls, E1.out.ld, a3, a4⟩
    · obtain ⟨p, rfl, hp1, hp2⟩ : ∃ p, ya = some ⟨p, 0, none⟩ ∧ M ≤ p ∧ p < w1.heap.size := by
        obtain ⟨_, h2⟩ := HN1.out
        rcases h2 with ⟨e, h0⟩ | ⟨k, cap, cur, e, hB, hh, _⟩
        · exact absurd h0 hd0
        · cases e; exact ⟨k, rfl, hB, lt_of_heapA hh⟩
      have hpq : ¬ p = w1.heap.size := by omega
      have HDr : Hid (DrawOk B g w2.drew) := HD2.out.keep ((Below.refl B w2).drew) rfl
      have hdp : (0 : Int) < (d.length : Int) := by omega
      go_wp2_with fail
      clear e0 e1 k0 k1 f0 f1
      go_region_held3 (fun w' => w'.cell? ⟨w1.heap.size, 1, none⟩ = some (.slice (some ⟨p, 0, none⟩) d.length yc))
        (first | exact c1 | exact q3 | exact q4 | exact q5 | go_keep)
        (first
          | (go_at_call 42; refine (below_any (B := B) (g := g) HDr.out (d.length : Int) hdp).mono ?_; rintro r w3 ⟨x, x1, x2, rfl, hb3, hd3⟩; obtain ⟨j, rfl⟩ := Int.eq_ofNat_of_zero_le x1; have hj : j < d.length := (by omega); have B3 : Hid (But g w2 w3) := But.trans ((But.refl g w2).drewN 1) hb3; have D3 : Hid (DrawOk B g w3) := hd3; have X3 : Hid (Box w3 w1.heap.size (.slice xa s.length xc) (.slice (some ⟨p, 0, none⟩) d.length yc) 32) := boxBut HX2.out B3.out (by omega); have q3 := X3.out.c1; clear hb3 hd3)
          | (go_at_call 91; refine (raw_spec (B := B) (g := g) D3.out).mono ?_; rintro r w4 ⟨z, rfl, hb4, hd4⟩; have B4 : Hid (But g w2 w4) := B3.out.trans hb4; have D4 : Hid (DrawOk B g w4) := hd4; have X4 : Hid (Box w4 w1.heap.size (.slice xa s.length xc) (.slice (some ⟨p, 0, none⟩) d.length yc) 32) := boxBut HX2.out B4.out (by omega); have q4 := X4.out.c1; have P4 : Hid (Piece M w1.heap.size w4 (.slice (some ⟨p, 0, none⟩) d.length yc) d) := HY2.out.but B4.out (.inl (by omega)); have sc := piece_cell P4.out hj; have sf := piece_free P4.out hj; clear hb4 hd4))
      have C : But p w4 (w4.setCell ⟨p, j, none⟩ (.int .i64 z)) := (But.refl _ _).setCell j _
      have z4 := B4.out.size
      have z5 := C.size
      have hX5 := boxBut X4.out C (by omega)
      have hR5 : (w4.setCell ⟨p, j, none⟩ (.int .i64 z)).heap[w.heap.size]? = some (.cells #[.slice none 0 0, .slice none 0 0] 32 (0, 0)) := (C.block w.heap.size (by omega) (by omega)).trans ((B4.out.block w.heap.size (by omega) (by omega)).trans HR2.out)
      have E1 : Hid (Drawn B g w (w4.setCell ⟨p, j, none⟩ (.int .i64 z)) w1.heap.size (.slice xa s.length xc) (.slice (some ⟨p, 0, none⟩) d.length yc) s (d.set j z)) := by
        have p1 : Piece (w.heap.size + 1) M _ (.slice xa s.length xc) s := (HP2.out.but B4.out (.inl (by omega))).but C (.inr hp1)
        have p2 : Piece M w1.heap.size (w4.setCell ⟨p, j, none⟩ (.int .i64 z)) (.slice (some ⟨p, 0, none⟩) d.length yc) (d.set j z) := by
          have := piece_set P4.out j z
          rwa [Nat.zero_add] at this
        exact ⟨hR5, hX5, hg, p1.mono (by omega) (by omega), p2.mono (by omega) (by omega), p1.apart p2 (.inl (Nat.le_refl _)), hls, by simp; omega, (HB2.out.trans B4.out).setNew (by omega) j _, D4.out.but C (by omega)⟩
      generalize w4.setCell ⟨p, j, none⟩ (.int .i64 z) = W5 at *
      have v0 := hX5.c0
      have v1 := hX5.c1
      have k0 : W5.cell? ⟨w.heap.size, 0, none⟩ = some (.slice none 0 0) := cell_at hR5 rfl
      have k1 : W5.cell? ⟨w.heap.size, 1, none⟩ = some (.slice none 0 0) := cell_at hR5 rfl
      have f0 : W5.frozen? ⟨w.heap.size, 0, none⟩ = false := free_at hR5 0
      have f1 : W5.frozen? ⟨w.heap.size, 1, none⟩ = false := free_at hR5 1
      clear C hX5 hR5 sc sf q3 q4 c0 c1
      go_wp2_with fail
      obtain ⟨a1, a2, a3, a4⟩ := draw_end E1.out.r E1.out.hg E1.out.px E1.out.py E1.out.ap E1.out.but E1.out.ok
      exact bodyPost_ret (v := .agg #[_, _]) (results_arr rfl _ _ w.heap.size _ _ rfl a1) rfl ⟨_, _, _, rfl, a2, E1.out.ls, E1.out.ld, a3, a4⟩
  by_cases m3 : n = 3
  · subst m3
    clear c0 c1 e0 e1 k0 k1 f0 f1
    have H300 : Hid (OwnInts (w2.alloc (.cells #[.int .i64 300] 3)) w2.heap.size [300]) := heap_alloc_new w2 _
    go_wp2_with fail
    refine (below_small (HD2.out.alloc _) 2 (by decide) (by decide)).mono ?_
    rintro e w3 ⟨b, b1, b2, rfl, hb, hd'⟩
    have z3 := hb.size
    simp at z3
    have hX3 : Box w3 w1.heap.size (.slice xa s.length xc) (.slice ya d.length yc) 32 := boxBut (HX2.out.keep (bAlloc (Below.refl _ _) _)) hb (by omega)
    have hR3 : w3.heap[w.heap.size]? = some (.cells #[.slice none 0 0, .slice none 0 0] 32 (0, 0)) := (hb.block w.heap.size (by simp; omega) (by omega)).trans ((Below.heap_alloc _ _ _ (by omega)).trans HR2.out)
    have P3 : Hid (Piece w2.heap.size (w2.heap.size + 1) w3 (.slice (some ⟨w2.heap.size, 0, none⟩) 1 1) [300]) := (OwnInts.piece (l := [300]) H300.out (Nat.le_refl _) (Nat.lt_succ_self _) 1).but hb (.inl (by omega))
    have HB3 : Hid (But g w w3) := (HB2.out.alloc _).trans hb
    have HD3 : Hid (DrawOk B g w3) := hd'
    clear hb hd'
    have FIN : Hid (∀ (n : Nat) (R : List Int), R.length = n → n ≤ 301 → Drawn B g w (((w3.alloc (.cells (vals R) 3)).setCell ⟨w1.heap.size, 0, none⟩ (.slice (some ⟨w2.heap.size, 0, none⟩) 1 1)).setCell ⟨w1.heap.size, 1, none⟩ (.slice (some ⟨w3.heap.size, 0, none⟩) n n)) w1.heap.size (.slice (some ⟨w2.heap.size, 0, none⟩) 1 1) (.slice (some ⟨w3.heap.size, 0, none⟩) n n) [300] R) := by
      intro n R hRn hn
      subst hRn
      have C : But w1.heap.size (w3.alloc (.cells (vals R) 3)) (((w3.alloc (.cells (vals R) 3)).setCell ⟨w1.heap.size, 0, none⟩ (.slice (some ⟨w2.heap.size, 0, none⟩) 1 1)).setCell ⟨w1.heap.size, 1, none⟩ (.slice (some ⟨w3.heap.size, 0, none⟩) R.length R.length)) := ((But.refl _ _).setCell 0 _).setCell 1 _
      have p1 := (P3.out.keep (bAlloc (Below.refl _ _) (.cells (vals R) 3))).but C (.inl (by omega))
      have p2 := ((newInts_alloc w3 R (Nat.le_refl _) (by omega)).butNe C (by omega)).piece
      have z5 := C.size
      have z6 : w3.heap.size + 1 ≤ (w3.alloc (.cells (vals R) 3)).heap.size := by simp
      exact ⟨(C.block w.heap.size (by simp; omega) (by omega)).trans ((Below.heap_alloc _ _ _ (by omega)).trans hR3), boxSet1 (boxSet0 (hX3.keep (bAlloc (Below.refl _ _) _)) _) _, hg, p1.mono (by omega) (by omega), p2.mono (by omega) (Nat.le_refl _), p1.apart p2 (.inl (by omega)), by simp, hn, ((HB3.out.alloc _).setNew (by omega) 0 _).setNew (by omega) 1 _, (HD3.out.alloc _).but C (by omega)⟩
    have c0 : ∀ R, (w3.alloc (.cells (vals R) 3)).cell? ⟨w1.heap.size, 0, none⟩ = some (.slice xa s.length xc) := fun R => (hX3.keep (bAlloc (Below.refl _ _) _)).c0
    have c1 : ∀ R, (w3.alloc (.cells (vals R) 3)).cell? ⟨w1.heap.size, 1, none⟩ = some (.slice ya d.length yc) := fun R => (hX3.keep (bAlloc (Below.refl _ _) _)).c1
    have e0 : ∀ R, (w3.alloc (.cells (vals R) 3)).frozen? ⟨w1.heap.size, 0, none⟩ = false := fun R => free_at (hX3.keep (bAlloc (Below.refl _ _) _)) 0
    have e1 : ∀ R, (w3.alloc (.cells (vals R) 3)).frozen? ⟨w1.heap.size, 1, none⟩ = false := fun R => free_at (hX3.keep (bAlloc (Below.refl _ _) _)) 1
    have hR4 : ∀ R, (w3.alloc (.cells (vals R) 3)).heap[w.heap.size]? = some (.cells #[.slice none 0 0, .slice none 0 0] 32 (0, 0)) := fun R => (Below.heap_alloc _ _ _ (by omega)).trans hR3
    have k0 : ∀ R, (w3.alloc (.cells (vals R) 3)).cell? ⟨w.heap.size, 0, none⟩ = some (.slice none 0 0) := fun R => cell_at (hR4 R) rfl
    have k1 : ∀ R, (w3.alloc (.cells (vals R) 3)).cell? ⟨w.heap.size, 1, none⟩ = some (.slice none 0 0) := fun R => cell_at (hR4 R) rfl
    have f0 : ∀ R, (w3.alloc (.cells (vals R) 3)).frozen? ⟨w.heap.size, 0, none⟩ = false := fun R => free_at (hR4 R) 0
    have f1 : ∀ R, (w3.alloc (.cells (vals R) 3)).frozen? ⟨w.heap.size, 1, none⟩ = false := fun R => free_at (hR4 R) 1
    clear hX3 hR3 hR4
    by_cases y5 : b = 0
    · subst y5
      have E1 := FIN.out 300 R0 LR0.out (by omega)
      have HE : Hid (Drawn B g w _ w1.heap.size _ _ _ _) := E1
      clear E1
      go_wp2_with fail
      obtain ⟨a1, a2, a3, a4⟩ := draw_end HE.out.r HE.out.hg HE.out.px HE.out.py HE.out.ap HE.out.but HE.out.ok
      exact bodyPost_ret (v := .agg #[_, _]) (results_arr rfl _ _ w.heap.size _ _ rfl a1) rfl ⟨_, _, _, rfl, a2, HE.out.ls, HE.out.ld, a3, a4⟩
    · obtain rfl : b = 1 := by omega
      have E1 := FIN.out 301 R1 LR1.out (by omega)
      have HE : Hid (Drawn B g w _ w1.heap.size _ _ _ _) := E1
      clear E1
      go_wp2_with fail
      obtain ⟨a1, a2, a3, a4⟩ := draw_end HE.out.r HE.out.hg HE.out.px HE.out.py HE.out.ap HE.out.but HE.out.ok
      exact bodyPost_ret (v := .agg #[_, _]) (results_arr rfl _ _ w.heap.size _ _ rfl a1) rfl ⟨_, _, _, rfl, a2, HE.out.ls, HE.out.ld, a3, a4⟩
  · have E1 : Hid (Drawn B g w w2 w1.heap.size (.slice xa s.length xc) (.slice ya d.length yc) s d) := 
      ⟨HR2.out, HX2.out, hg, HP2.out.mono (Nat.le_refl _) (by omega), HY2.out.mono (by omega) (by omega), HP2.out.apart HY2.out (.inl (by omega)), hls, by omega, HB2.out, HD2.out⟩
    go_wp2_with fail
    obtain ⟨a1, a2, a3, a4⟩ := draw_end E1.out.r E1.out.hg E1.out.px E1.out.py E1.out.ap E1.out.but E1.out.ok
    exact bodyPost_ret (v := .agg #[_, _]) (results_arr rfl _ _ w.heap.size _ _ rfl a1) rfl ⟨_, _, _, rfl, a2, E1.out.ls, E1.out.ld, a3, a4⟩
end Go.Proofs.Ytmmjidhpmbcoiaa
namespace Go.Proofs.Ytmmjidhpmbcoiaa
open Go.RowKit
set_option linter.unusedVariables false
set_option linter.unusedSimpArgs false
theorem But.win {g : Nat} {a w : World} (h : But g a w) : Win g (g + 1) a w := ⟨h.os, h.tape, h.output, h.size, fun k hk hd => h.block k hk (by omega)⟩
theorem But.drew1 {g : Nat} {a w : World} (h : But g a w) : But g a w.drew := ⟨h.os, h.tape, h.output, h.size, h.block⟩
theorem But.next {g : Nat} {a w w' : World} (h : But g a w) (hb : Below w.heap.size w w') : But g a w' := h.trans (But.of hb)
theorem DrawOk.drew1 {B g : Nat} {w : World} (h : DrawOk B g w) : DrawOk B g w.drew := h.keep ((Below.refl B w).drew) rfl
theorem DrawOk.next {B g : Nat} {w w' : World} (h : DrawOk B g w) (hb : Below w.heap.size w w') : DrawOk B g w' := h.keep (hb.mono h.2.1) (hb.block g h.lt)
theorem arrI_of {B C B' C' : Nat} {w : World} {x y : Value} {s d : List Int} (px : Piece B C w x s) (py : Piece B' C' w y d) : ArrI w (.agg #[x, y]) s d := by
  obtain ⟨a, c, rfl, h1, h2⟩ := px.intsC
  obtain ⟨b, e, rfl, h3, h4⟩ := py.intsC
  exact ⟨a, c, b, e, rfl, h2, h4, h1, h3⟩
/-- Nothing where there is no cell. -/
def nrm (n : Nat) (E : Nat → Cel) : Nat → Cel := fun i => if i < n then E i else cel0
theorem nrm_at {n i : Nat} {E : Nat → Cel} (h : i < n) : nrm n E i = E i := if_pos h
theorem nrm_out {n i : Nat} {E : Nat → Cel} (h : n ≤ i) : nrm n E i = cel0 := if_neg (by omega)
theorem hOk_congr {m : Nat} {t : Int} {n : Nat} {E E' : Nat → Cel} (h : hOk m t n E) (he : ∀ i, i < n → E' i = E i) : hOk m t n E' :=
  ⟨h.1, h.2.1, h.2.2.1, h.2.2.2.1, fun i hi => by rw [he i hi]; exact h.2.2.2.2.1 i hi, fun i j hij hj => by rw [he i (by omega), he j hj]; exact h.2.2.2.2.2 i j hij hj⟩
section
variable {P : Nat → Prop} {B C : Nat} {w w' : World} {v : Value} {W : List Int} {t : Int} {n : Nat} {E : Nat → Cel}
theorem HXZ.congr {E' : Nat → Cel} (h : HXZ P B C w v W t n E) (he : ∀ i, i < n → E' i = E i) : HXZ P B C w v W t n E' := by
  obtain ⟨⟨x, z, B1, C1, B2, C2, e, m, d, hp, h1, h2⟩, hz⟩ := h
  exact ⟨⟨x, z, B1, C1, B2, C2, e, m, d, hp, h1, h2.congr he⟩, hz⟩
theorem HXZ.more {P' : Nat → Prop} (h : HXZ P B C w v W t n E) (hP : ∀ k, P' k → P k ∨ k < B ∨ C ≤ k) : HXZ P' B C w v W t n E := by
  obtain ⟨⟨x, z, B1, C1, B2, C2, e, m, d, hp, h1, h2⟩, hz⟩ := h
  refine ⟨⟨x, z, B1, C1, B2, C2, e, m, d, fun k hk => ?_, h1, h2⟩, hz⟩
  rcases hP k hk with q | q
  · exact hp k q
  · omega
/-- A right heap of one's own. -/
def HZR (P : Nat → Prop) (B C : Nat) (w : World) (v : Value) : Prop := ∃ W t n E, HXZ P B C w v W t n E ∧ hOk W.length t n E ∧ ∀ i, n ≤ i → E i = cel0
theorem HZR.mk (h : HXZ P B C w v W t n E) (hk : hOk W.length t n E) : HZR P B C w v :=
  ⟨W, t, n, nrm n E, h.congr fun i hi => nrm_at hi, hOk_congr hk fun i hi => nrm_at hi, fun i hi => nrm_out hi⟩
theorem right_in {m : Nat} (hk : hOk m t n E) (hz : ∀ i, n ≤ i → E i = cel0) : (∀ i, in64 (E i).f ∧ in64 (E i).l) ∧ in64 t := by
  have h1 := hk.1
  have h2 := hk.2.1
  have h3 := hk.2.2.1
  unfold in64
  refine ⟨fun i => ?_, by omega, by omega⟩
  by_cases hi : i < n
  · have hf := hk.2.2.2.2.1 i hi
    cases hv : (E i).v with
    | true => have := hf.2 hv; omega
    | false => have := hf.1 hv; omega
  · rw [hz i (by omega)]
    simp [cel0]
theorem HZR.keep (h : HZR P B C w v) (hb : Below w.heap.size w w') : HZR P B C w' v := by
  obtain ⟨W, t, n, E, h, r⟩ := h
  exact ⟨W, t, n, E, h.keep hb, r⟩
theorem HZR.win {A : Nat} (h : HZR P B C w v) (hA : P A ∨ A < B ∨ C ≤ A) (hw : Win A (A + 1) w w') : HZR P B C w' v := by
  obtain ⟨W, t, n, E, h, r⟩ := h
  exact ⟨W, t, n, E, h.win hA hw, r⟩
theorem HZR.more {P' : Nat → Prop} (h : HZR P B C w v) (hP : ∀ k, P' k → P k ∨ k < B ∨ C ≤ k) : HZR P' B C w v := by
  obtain ⟨W, t, n, E, h, r⟩ := h
  exact ⟨W, t, n, E, h.more hP, r⟩
theorem HZR.mono {B' C' : Nat} (h : HZR P B C w v) (hB : B' ≤ B) (hC : C ≤ C') : HZR P B' C' w v := by
  obtain ⟨W, t, n, E, h, r⟩ := h
  exact ⟨W, t, n, E, h.mono hB hC, r⟩
theorem HZR.form (h : HZR P B C w v) : ∃ xa xm xc t za zn zc, v = .agg #[.slice xa xm xc, .int .i64 t, .slice za zn zc] ∧ xm ≤ 6000 ∧ zn ≤ 200 := by
  obtain ⟨W, t, n, E, h, hk, _⟩ := h
  obtain ⟨xa, xc, za, zc, e⟩ := h.hx.form
  exact ⟨xa, W.length, xc, t, za, n, zc, e, hk.1, hk.2.2.2.1⟩
set_option maxRecDepth 20000 in
set_option maxHeartbeats 8000000 in
theorem new_right (r : Int) (w : World) : Calls Try.prog 12 #[.int .i64 r] w fun e w' => ∃ v b, e = .returned (.tuple #[v, .bool b]) ∧ HZR (fun _ => False) w.heap.size w'.heap.size w' v ∧ Below w.heap.size w w' := by
  by_cases h : 0 ≤ r ∧ r ≤ 6000
  · obtain ⟨m, rfl⟩ : ∃ m : Nat, r = (m : Int) := ⟨r.toNat, by omega⟩
    have hmk : ∀ w, (Instr.makeSlice 25 (.int .i64 (m : Int)) (.int .i64 (m : Int))).run Try.prog w = .ok (.slice (some ⟨w.heap.size, 0, none⟩) m m) (w.alloc (.cells (vals (List.replicate m 0)) 3)) := fun w => make_ints m (by omega) w
    have hq : (decide ((0 : Int) ≤ (m : Int)) && decide ((m : Int) ≤ 6000)) = true := by simp; omega
    have HR : Hid (hOk (List.replicate m (0 : Int)).length 0 0 (fun _ => cel0)) := by
      show hOk _ _ _ _
      exact ⟨by simp; omega, by omega, by simp, by omega, fun i hi => absurd hi (by omega), fun i j _ hj => absurd hj (by omega)⟩
    go_enter Try.func12, Try.ntmps12
    go_wp2_with (go_at_call 43; refine (in_spec _ _ _ _).mono ?_; rintro r w1 ⟨rfl, hw⟩; subst w1; rw [hq])
    go_returns
    exact ⟨_, _, rfl, HZR.mk ((hp_new _ _ _).hxz (ZCap.nil _).capH) HR.out, bAlloc (bAlloc (Below.refl _ _) _) _⟩
  · have hq : (decide ((0 : Int) ≤ r) && decide (r ≤ 6000)) = false := by simp; omega
    have HR : Hid (hOk ([] : List Int).length 0 0 (fun _ => cel0)) := by
      show hOk _ _ _ _
      exact ⟨by simp, by omega, by simp, by omega, fun i hi => absurd hi (by omega), fun i j _ hj => absurd hj (by omega)⟩
    go_enter Try.func12, Try.ntmps12
    go_wp2_with (go_at_call 43; refine (in_spec _ _ _ _).mono ?_; rintro r w1 ⟨rfl, hw⟩; subst w1; rw [hq])
    go_returns
    exact ⟨_, _, rfl, HZR.mk ((HP.zero _ _ (by simp) _ (fun _ => cel0)).hxz (ZCap.nil _).capH) HR.out, bAlloc (Below.refl _ _) _⟩
theorem put_ownR {u : Value} {s d : List Int} (h : HZR P B C w v) (ha : ArrI w u s d) (hd : d.length ≤ 1048576) :
    Calls Try.prog 18 #[v, u] w fun e w' => ∃ v' i b, e = .returned (.tuple #[v', .int .i64 i, .bool b]) ∧ HZR (fun _ => False) w.heap.size w'.heap.size w' v' ∧ Below w.heap.size w w' := by
  obtain ⟨W, t, n, E, hx, hk, hz⟩ := h
  refine (heapPut_spec2 hx.hx.hi (right_in hk hz) (by have := hk.1; omega) (by have := hk.2.2.2.1; omega) ha hd).mono ?_
  rintro e w' ⟨v', rfl, hX, hb⟩
  refine ⟨v', _, _, rfl, HZR.mk hX ?_, hb⟩
  by_cases hc : (arrOk s d && putB W t n E (wsA s d)) = true
  · have hc' : arrOk s d = true ∧ putB W t n E (wsA s d) = true := by simpa using hc
    obtain ⟨_, _, o3, o4, o5, o6⟩ := out_put (hOkB_true hk) hc'.1 hc'.2
    rw [o3, o4, o5, o6]
    exact put_ok hk hc'.2 (by rw [wsA_len]; omega)
  · have hc' : (arrOk s d && putB W t n E (wsA s d)) = false := by simpa using hc
    obtain ⟨_, _, o3, o4, o5, o6⟩ := out_same (hOkB_true hk) hc'
    rw [o3, o4, o5, o6]
    exact hk
theorem drop_right (i : Int) (h : HZR P B C w v) :
    Calls Try.prog 24 #[v, .int .i64 i] w fun e w' => ∃ v' b, e = .returned (.tuple #[v', .bool b]) ∧ HZR (fun _ => False) w.heap.size w'.heap.size w' v' ∧ Below w.heap.size w w' := by
  obtain ⟨W, t, n, E, hx, hk, hz⟩ := h
  refine (heapDrop_spec2 i hx.hx.hi (right_in hk hz) (by have := hk.1; omega) (by have := hk.2.2.2.1; omega)).mono ?_
  rintro e w' ⟨v', rfl, hX, hb⟩
  rw [if_pos (hOkB_true hk), if_pos (hOkB_true hk), if_pos (hOkB_true hk)] at hX
  exact ⟨v', _, rfl, HZR.mk hX (drop_ok hk i), hb⟩
theorem pack_right (h : HZR P B C w v) :
    Calls Try.prog 28 #[v] w fun e w' => ∃ v' b, e = .returned (.tuple #[v', .bool b]) ∧ HZR (fun _ => False) w.heap.size w'.heap.size w' v' ∧ Below w.heap.size w w' := by
  obtain ⟨W, t, n, E, hx, hk, hz⟩ := h
  refine (heapPack_spec2 hx.hx.hi (right_in hk hz) (by have := hk.1; omega) (by have := hk.2.2.2.1; omega)).mono ?_
  rintro e w' ⟨v', rfl, hX, hb⟩
  have e9 : packN W t n E = n := by unfold packN; rw [if_pos (hOkB_true hk)]
  rw [e9] at hX
  exact ⟨v', _, rfl, HZR.mk hX (packed_ok hk), hb⟩
end
end Go.Proofs.Ytmmjidhpmbcoiaa
namespace Go.Proofs.Ytmmjidhpmbcoiaa
open Go.RowKit
set_option linter.unusedVariables false
set_option linter.unusedSimpArgs false
theorem Box3.cells {w : World} {g : Nat} {x y z : Value} {ty : TypeId} (h : Box3 w g x y z ty) : w.cell? ⟨g, 0, none⟩ = some x ∧ w.cell? ⟨g, 1, none⟩ = some y ∧ w.cell? ⟨g, 2, none⟩ = some z := ⟨h.c0, h.c1, h.c2⟩
abbrev ZH : Obj := .cells #[.slice none 0 0, .int .i64 0, .slice none 0 0] 28
/-- A heap's value. -/
abbrev hv (xa : Option Addr) (xm xc : Nat) (t : Int) (za : Option Addr) (zn zc : Nat) : Value := .agg #[.slice xa xm xc, .int .i64 t, .slice za zn zc]
/-- The heap so far, in its box q; the result's box p. -/
def HpAt (B g p q : Nat) (w w' : World) : Prop :=
  ∃ xa xm xc t za zn zc, Box3 w' q (.slice xa xm xc) (.int .i64 t) (.slice za zn zc) 28 ∧ HZR (fun k => k = q ∨ k = p) (p + 1) w'.heap.size w' (hv xa xm xc t za zn zc) ∧ Box3 w' p (.slice none 0 0) (.int .i64 0) (.slice none 0 0) 28 ∧ (g < p ∧ p < q ∧ w.heap.size ≤ p) ∧ But g w w' ∧ DrawOk B g w'
/-- The next heap in its box g6 beside it. -/
def HpSt (B g p q : Nat) (w : World) (xa : Option Addr) (xm xc : Nat) (t : Int) (za : Option Addr) (zn zc : Nat) (g6 : Nat) (w' : World) : Prop :=
  ∃ na nm nc nt ua un uc, Box3 w' g6 (.slice na nm nc) (.int .i64 nt) (.slice ua un uc) 28 ∧ HZR (fun k => k = g6 ∨ k = q ∨ k = p) (p + 1) w'.heap.size w' (hv na nm nc nt ua un uc) ∧
    Box3 w' q (.slice xa xm xc) (.int .i64 t) (.slice za zn zc) 28 ∧ HZR (fun k => k = g6 ∨ k = q ∨ k = p) (p + 1) w'.heap.size w' (hv xa xm xc t za zn zc) ∧
    Box3 w' p (.slice none 0 0) (.int .i64 0) (.slice none 0 0) 28 ∧ (g < p ∧ p < q ∧ w.heap.size ≤ p ∧ p < g6 ∧ g6 ≠ q) ∧ But g w w' ∧ DrawOk B g w'
section
variable {B g p q g6 : Nat} {w w' w'' : World} {xa za : Option Addr} {xm xc zn zc : Nat} {t : Int}
/-- The cursor alone turns. -/
theorem HpSt.but (h : HpSt B g p q w xa xm xc t za zn zc g6 w') (hb : But g w' w'') (hd : DrawOk B g w'') : HpSt B g p q w xa xm xc t za zn zc g6 w'' := by
  obtain ⟨na, nm, nc, nt, ua, un, uc, h1, h2, h3, h4, h5, h6, h7, h8⟩ := h
  have hs := hb.size
  exact ⟨na, nm, nc, nt, ua, un, uc, h1.win hb.win (by omega), (h2.win (.inr (.inl (by omega))) hb.win).mono (Nat.le_refl _) hs, h3.win hb.win (by omega), (h4.win (.inr (.inl (by omega))) hb.win).mono (Nat.le_refl _) hs, h5.win hb.win (by omega), h6, h7.trans hb, hd⟩
theorem HpSt.keep (h : HpSt B g p q w xa xm xc t za zn zc g6 w') (hb : Below w'.heap.size w' w'') : HpSt B g p q w xa xm xc t za zn zc g6 w'' := h.but (But.of hb) (by obtain ⟨_, _, _, _, _, _, _, _, _, _, _, _, _, _, hd⟩ := h; exact hd.next hb)
theorem HpAt.but (h : HpAt B g p q w w') (hb : But g w' w'') (hd : DrawOk B g w'') : HpAt B g p q w w'' := by
  obtain ⟨xa, xm, xc, t, za, zn, zc, h3, h4, h5, h6, h7, h8⟩ := h
  have hs := hb.size
  exact ⟨xa, xm, xc, t, za, zn, zc, h3.win hb.win (by omega), (h4.win (.inr (.inl (by omega))) hb.win).mono (Nat.le_refl _) hs, h5.win hb.win (by omega), h6, h7.trans hb, hd⟩
theorem win3 (w : World) (g : Nat) (x y z : Value) : Win g (g + 1) w (((w.setCell ⟨g, 0, none⟩ x).setCell ⟨g, 1, none⟩ y).setCell ⟨g, 2, none⟩ z) := ((win_setCell _ _ _ _).trans (win_setCell _ _ _ _)).trans (win_setCell _ _ _ _)
theorem size3 (w : World) (g : Nat) (x y z : Value) : (((w.setCell ⟨g, 0, none⟩ x).setCell ⟨g, 1, none⟩ y).setCell ⟨g, 2, none⟩ z).heap.size = w.heap.size := by simp [size_setCell]
/-- What is answered is laid into the box of the next one. -/
theorem HpSt.put {na ua : Option Addr} {nm nc un uc L : Nat} {nt : Int} (h : HpSt B g p q w xa xm xc t za zn zc g6 w') (hz : HZR (fun _ => False) L w'.heap.size w' (hv na nm nc nt ua un uc)) (hL : g6 < L ∧ q < L ∧ p < L) : HpSt B g p q w xa xm xc t za zn zc g6 (((w'.setCell ⟨g6, 0, none⟩ (.slice na nm nc)).setCell ⟨g6, 1, none⟩ (.int .i64 nt)).setCell ⟨g6, 2, none⟩ (.slice ua un uc)) := by
  obtain ⟨_, _, _, _, _, _, _, h1, h2, h3, h4, h5, h6, h7, h8⟩ := h
  have hw := win3 w' g6 (.slice na nm nc) (.int .i64 nt) (.slice ua un uc)
  have hs := size3 w' g6 (.slice na nm nc) (.int .i64 nt) (.slice ua un uc)
  refine ⟨na, nm, nc, nt, ua, un, uc, ((h1.set0 _).set1 _).set2 _, ?_, h3.win hw (by omega), ?_, h5.win hw (by omega), h6, ?_, ?_⟩
  · exact ((hz.win (.inr (.inl hL.1)) hw).more fun k hk => by rcases hk with e | e | e <;> (right; left; omega)).mono (by omega) (by omega)
  · exact (h4.win (.inl (.inl rfl)) hw).mono (Nat.le_refl _) (by omega)
  · exact ((h7.setNew (by omega) _ _).setNew (by omega) _ _).setNew (by omega) _ _
  · have hc : But g6 w' (((w'.setCell ⟨g6, 0, none⟩ (.slice na nm nc)).setCell ⟨g6, 1, none⟩ (.int .i64 nt)).setCell ⟨g6, 2, none⟩ (.slice ua un uc)) := (((But.refl _ _).setCell _ _).setCell _ _).setCell _ _
    exact h8.but hc (by omega)
/-- It is left as it was. -/
theorem HpSt.stay (h : HpSt B g p q w xa xm xc t za zn zc g6 w') : HpAt B g p q w w' := by
  obtain ⟨_, _, _, _, _, _, _, h1, h2, h3, h4, h5, h6, h7, h8⟩ := h
  exact ⟨xa, xm, xc, t, za, zn, zc, h3, h4.more fun k hk => .inl (.inr hk), h5, ⟨h6.1, h6.2.1, h6.2.2.1⟩, h7, h8⟩
/-- The next one is laid into its box. -/
theorem HpSt.take {na ua : Option Addr} {nm nc un uc : Nat} {nt : Int} (h : HpSt B g p q w xa xm xc t za zn zc g6 w') (hb : Box3 w' g6 (.slice na nm nc) (.int .i64 nt) (.slice ua un uc) 28) : HpAt B g p q w (((w'.setCell ⟨q, 0, none⟩ (.slice na nm nc)).setCell ⟨q, 1, none⟩ (.int .i64 nt)).setCell ⟨q, 2, none⟩ (.slice ua un uc)) := by
  obtain ⟨na', nm', nc', nt', ua', un', uc', h1, h2, h3, h4, h5, h6, h7, h8⟩ := h
  have e : (.cells #[.slice na' nm' nc', .int .i64 nt', .slice ua' un' uc'] 28 (0, 0) : Obj) = .cells #[.slice na nm nc, .int .i64 nt, .slice ua un uc] 28 (0, 0) := by
    have := h1.symm.trans hb
    simpa using this
  simp at e
  obtain ⟨⟨rfl, rfl, rfl⟩, rfl, rfl, rfl, rfl⟩ := e
  have hw := win3 w' q (.slice na' nm' nc') (.int .i64 nt') (.slice ua' un' uc')
  have hs := size3 w' q (.slice na' nm' nc') (.int .i64 nt') (.slice ua' un' uc')
  refine ⟨na', nm', nc', nt', ua', un', uc', ((h3.set0 _).set1 _).set2 _, ?_, h5.win hw (by omega), ⟨h6.1, h6.2.1, h6.2.2.1⟩, ?_, ?_⟩
  · exact ((h2.win (.inl (.inr (.inl rfl))) hw).more fun k hk => .inl (.inr hk)).mono (Nat.le_refl _) (by omega)
  · exact ((h7.setNew (by omega) _ _).setNew (by omega) _ _).setNew (by omega) _ _
  · have hc : But q w' (((w'.setCell ⟨q, 0, none⟩ (.slice na' nm' nc')).setCell ⟨q, 1, none⟩ (.int .i64 nt')).setCell ⟨q, 2, none⟩ (.slice ua' un' uc')) := (((But.refl _ _).setCell _ _).setCell _ _).setCell _ _
    exact h8.but hc (by omega)
/-- The box of the next one is made behind the call. -/
theorem hp_new_box {na ua : Option Addr} {nm nc un uc L : Nat} {nt : Int} {w0 : World} (h : HpAt B g p q w w0) (hq : q < w0.heap.size) (hb : But g w0 w') (hd : DrawOk B g w') (hx : Box3 w0 q (.slice xa xm xc) (.int .i64 t) (.slice za zn zc) 28 ∧ HZR (fun k => k = q ∨ k = p) (p + 1) w0.heap.size w0 (hv xa xm xc t za zn zc)) (hz : HZR (fun _ => False) L w'.heap.size w' (hv na nm nc nt ua un uc)) (hL : w0.heap.size ≤ L) : HpSt B g p q w xa xm xc t za zn zc w'.heap.size (w'.alloc (.cells #[.slice na nm nc, .int .i64 nt, .slice ua un uc] 28)) := by
  obtain ⟨_, _, _, _, _, _, _, _, _, h5, h6, h7, h8⟩ := h
  obtain ⟨h3, h4⟩ := hx
  have hs := hb.size
  have ba := bAlloc (Below.refl w'.heap.size w') (.cells #[.slice na nm nc, .int .i64 nt, .slice ua un uc] 28)
  have hs2 := ba.size
  refine ⟨na, nm, nc, nt, ua, un, uc, box3_new w' _ _ _ _, ?_, (h3.win hb.win (by omega)).keep ba, ?_, (h5.win hb.win (by omega)).keep ba, ⟨h6.1, h6.2.1, h6.2.2, by omega, by omega⟩, (h7.trans hb).next ba, hd.next ba⟩
  · exact ((hz.keep ba).more fun k hk => by rcases hk with e | e | e <;> (right; omega)).mono (by omega) hs2
  · exact (((h4.win (.inr (.inl (by omega))) hb.win).keep ba).more fun k hk => by
      rcases hk with e | e
      · right; right; omega
      · exact .inl e).mono (Nat.le_refl _) (by omega)
/-- The box of the next one was made ahead of the call. -/
theorem hp_old_box {na ua : Option Addr} {nm nc un uc L : Nat} {nt : Int} {w0 : World} (h : HpAt B g p q w w0) (hq : q < w0.heap.size) (hb : But g w0 w') (hd : DrawOk B g w') (hx : Box3 w0 q (.slice xa xm xc) (.int .i64 t) (.slice za zn zc) 28 ∧ HZR (fun k => k = q ∨ k = p) (p + 1) w0.heap.size w0 (hv xa xm xc t za zn zc)) (hz : HZR (fun _ => False) L w'.heap.size w' (hv na nm nc nt ua un uc)) (h6b : Box3 w' g6 (.slice none 0 0) (.int .i64 0) (.slice none 0 0) 28) (hg6 : w0.heap.size ≤ g6 ∧ g6 < L) : HpSt B g p q w xa xm xc t za zn zc g6 (((w'.setCell ⟨g6, 0, none⟩ (.slice na nm nc)).setCell ⟨g6, 1, none⟩ (.int .i64 nt)).setCell ⟨g6, 2, none⟩ (.slice ua un uc)) := by
  obtain ⟨_, _, _, _, _, _, _, _, _, h5, h6, h7, h8⟩ := h
  obtain ⟨h3, h4⟩ := hx
  have hs := hb.size
  have hw := win3 w' g6 (.slice na nm nc) (.int .i64 nt) (.slice ua un uc)
  have hs2 := size3 w' g6 (.slice na nm nc) (.int .i64 nt) (.slice ua un uc)
  refine ⟨na, nm, nc, nt, ua, un, uc, ((h6b.set0 _).set1 _).set2 _, ?_, (h3.win hb.win (by omega)).win hw (by omega), ?_, (h5.win hb.win (by omega)).win hw (by omega), ⟨h6.1, h6.2.1, h6.2.2, by omega, by omega⟩, ?_, ?_⟩
  · exact ((hz.win (.inr (.inl hg6.2)) hw).more fun k hk => by rcases hk with e | e | e <;> (right; left; omega)).mono (by omega) (by omega)
  · exact (((h4.win (.inr (.inl (by omega))) hb.win).win (.inr (.inr (by omega))) hw).more fun k hk => by
      rcases hk with e | e
      · right; right; omega
      · exact .inl e).mono (Nat.le_refl _) (by omega)
  · exact (((h7.trans hb).setNew (by omega) _ _).setNew (by omega) _ _).setNew (by omega) _ _
  · have hc : But g6 w' (((w'.setCell ⟨g6, 0, none⟩ (.slice na nm nc)).setCell ⟨g6, 1, none⟩ (.int .i64 nt)).setCell ⟨g6, 2, none⟩ (.slice ua un uc)) := (((But.refl _ _).setCell _ _).setCell _ _).setCell _ _
    exact hd.but hc (by omega)
end
set_option maxRecDepth 20000 in
set_option maxHeartbeats 16000000 in
/-- l13DrawRight. -/
theorem heapRight_draw {B g : Nat} {w : World} (hd : DrawOk B g w) :
    Calls Try.prog 87 #[.pointer (some ⟨g, 0, none⟩)] w fun e w' => ∃ v, e = .returned v ∧ HZR (fun k => k = w.heap.size) (w.heap.size + 1) w'.heap.size w' v ∧ But g w w' ∧ DrawOk B g w' := by
  have hg := hd.lt
  have HD : Hid (DrawOk B g w) := hd
  clear hd
  go_enter Try.func87, Try.ntmps87
  go_upto_region 1 with fail
  generalize hW : w.alloc ZH = wa
  have HSA : Hid (wa.heap.size = w.heap.size + 1) := by show _ = _; rw [← hW]; simp
  have BA : Hid (But g w wa) := by rw [← hW]; exact (But.refl g w).alloc _
  have DA : Hid (DrawOk B g wa) := by rw [← hW]; exact HD.out.alloc _
  have RA : Hid (Box3 wa w.heap.size (.slice none 0 0) (.int .i64 0) (.slice none 0 0) 28) := by rw [← hW]; exact box3_new w _ _ _ _
  clear hW HD
  go_wp2_with fail
  refine (pick_spec (B := B) (g := g) (gl := wa.heap.size) (DA.out.alloc _) 4 4 (by decide) (by decide) (by have := HSA.out; omega) (by simp) (nums_alloc wa [(10 : Int), 30, 60, 100] _) rfl).mono ?_
  rintro e w1 ⟨x, rfl, hb, hd, hm⟩
  have B1 : Hid (But g w w1) := (BA.out.alloc _).trans hb
  have D1 : Hid (DrawOk B g w1) := hd
  have R1 : Hid (Box3 w1 w.heap.size (.slice none 0 0) (.int .i64 0) (.slice none 0 0) 28) := (RA.out.alloc _).win hb.win (by have := HSA.out; omega)
  have hs1 : w.heap.size + 1 ≤ w1.heap.size := by have := hb.size; have := HSA.out; simp at *; omega
  clear hb hd hm BA DA RA
  go_wp2_with fail
  refine (new_right x w1).mono ?_
  rintro e w2 ⟨v, b, rfl, hz, hb⟩
  obtain ⟨xa, xm, xc, t, za, zn, zc, rfl, _, _⟩ := hz.form
  have HZ2 : Hid (HZR (fun _ => False) w1.heap.size w2.heap.size w2 (.agg #[.slice xa xm xc, .int .i64 t, .slice za zn zc])) := hz
  have B2 : Hid (But g w w2) := B1.out.next hb
  have D2 : Hid (DrawOk B g w2) := D1.out.next hb
  have R2 : Hid (Box3 w2 w.heap.size (.slice none 0 0) (.int .i64 0) (.slice none 0 0) 28) := R1.out.keep hb
  have hs2 := hb.size
  clear hz hb B1 D1 R1
  go_wp2_with fail
  generalize hW : w2.alloc (.cells #[.slice xa xm xc, .int .i64 t, .slice za zn zc] 28) = w3
  have b3 : Below w2.heap.size w2 w3 := by rw [← hW]; exact bAlloc (Below.refl _ _) _
  have A3 : Hid (HpAt B g w.heap.size w2.heap.size w w3) := by
    have bx : Box3 w3 w2.heap.size (.slice xa xm xc) (.int .i64 t) (.slice za zn zc) 28 := by rw [← hW]; exact box3_new w2 _ _ _ _
    exact ⟨xa, xm, xc, t, za, zn, zc, bx, ((HZ2.out.keep b3).more fun k hk => by rcases hk with e | e <;> (right; omega)).mono (by omega) b3.size, R2.out.keep b3, ⟨hg, by omega, Nat.le_refl _⟩, B2.out.next b3, D2.out.next b3⟩
  clear hW b3 B2 D2 R2 HZ2
  obtain ⟨q, hq⟩ : ∃ q, q = w2.heap.size := ⟨_, rfl⟩
  rw [← hq] at A3 ⊢
  clear hq
  go_loopw [5] (fun i w' => ∃ k : Nat, k ≤ 14 ∧ i = .int .i64 (k : Int) ∧ HpAt B g w.heap.size q w w') (fun i _ => 14 - (intOf i).toNat)
  case atStart => exact ⟨0, by omega, rfl, A3.out⟩
  case round =>
    clear A3
    obtain ⟨k, hk, rfl, hA⟩ := hrel
    have AK : Hid (HpAt B g w.heap.size q w wr) := hA
    have DK : DrawOk B g wr := by obtain ⟨_, _, _, _, _, _, _, _, _, _, _, _, hd⟩ := hA; exact hd
    clear hA
    go_wp2_with fail
    refine (below_small DK 14 (by decide) (by decide)).mono ?_
    rintro e wq ⟨y, y1, y2, rfl, hb, hd⟩
    obtain ⟨n, rfl⟩ : ∃ n : Nat, y = n := ⟨y.toNat, by omega⟩
    have AQ : Hid (HpAt B g w.heap.size q w wq) := AK.out.but hb hd
    have DQ : Hid (DrawOk B g wq) := hd
    clear hb hd AK DK
    by_cases hc : (k : Int) < (n : Int)
    · obtain ⟨xa, xm, xc, t, za, zn, zc, hx, hz, _, hle, _, _⟩ := AQ.out
      have HQ : Hid (Box3 wq q (.slice xa xm xc) (.int .i64 t) (.slice za zn zc) 28 ∧ HZR (fun k => k = q ∨ k = w.heap.size) (w.heap.size + 1) wq.heap.size wq (hv xa xm xc t za zn zc)) := ⟨hx, hz⟩
      have hql := hx.lt
      have x0 := hx.c0
      have x1 := hx.c1
      have x2 := hx.c2
      have KB : Hid (∀ W', But g wq W' → W'.cell? ⟨q, 0, none⟩ = some (.slice xa xm xc) ∧ W'.cell? ⟨q, 1, none⟩ = some (.int .i64 t) ∧ W'.cell? ⟨q, 2, none⟩ = some (.slice za zn zc)) := fun W' hb => by
        have := HQ.out.1.win hb.win (by omega)
        exact ⟨this.c0, this.c1, this.c2⟩
      clear hx hz
      go_wp2_with fail
      go_cut [6, 7, 8] from 16 to 55 (fun pp i b w' => ∃ (g6 : Nat) (I : Int) (ok : Bool), pp = .pointer (some ⟨g6, 0, none⟩) ∧ i = .int .i64 I ∧ b = .bool ok ∧ HpSt B g w.heap.size q w xa xm xc t za zn zc g6 w')
      case first =>
        have nu0 := World.new_ne wq ⟨q, 0, none⟩ x0
        have hcn : wq.heap.size < g ∨ g + 1 ≤ wq.heap.size := .inr (by omega)
        go_region_held3 (fun w' => w'.cell? ⟨q, 0, none⟩ = some (.slice xa xm xc) ∧ w'.cell? ⟨q, 1, none⟩ = some (.int .i64 t) ∧ w'.cell? ⟨q, 2, none⟩ = some (.slice za zn zc))
          (first | (refine KB.out _ ?_; (repeat first | with_reducible exact But.refl _ _ | with_reducible exact BY.out | with_reducible exact BX.out | with_reducible refine But.alloc ?_ _ | with_reducible refine But.drew1 ?_ | with_reducible refine But.setNew ?_ (by omega) _ _); done) | go_keep)
          (first
            | (go_at_call 89; refine (rightA_draw (B := B) (g := g) (by repeat first | exact DQ.out | refine DrawOk.alloc ?_ _ | refine DrawOk.drew1 ?_)).mono ?_; rintro r wx ⟨ax, ay, sa, da, MM, rfl, hM, hPx, hNy, hls, hld, hbx, hdx⟩; have BX : Hid (But g wq wx) := But.trans (by repeat first | exact But.refl _ _ | refine But.alloc ?_ _ | refine But.drew1 ?_) hbx; have DX : Hid (DrawOk B g wx) := hdx; have hsX := hbx.size; have hsX2 := BX.out.size; have AX : Hid (ArrI wx (.agg #[ax, ay]) sa da) := arrI_of hPx hNy.piece; have hdl : da.length ≤ 300 := hld; (first | have bq : Hid (Box3 wx wq.heap.size (.slice none 0 0) (.int .i64 0) (.slice none 0 0) 28) := Box3.win (w := World.drew (World.alloc wq ZH)) (box3_new wq _ _ _ _) hbx.win hcn | have bq : Hid (Box3 wx wq.heap.size (.slice none 0 0) (.int .i64 0) (.slice none 0 0) 28) := Box3.win (w := World.alloc wq ZH) (box3_new wq _ _ _ _) hbx.win hcn | skip); (first | have lq : Hid (wq.heap.size < wx.heap.size) := Nat.lt_of_lt_of_le (lt_allocD wq ZH) hbx.size | skip); clear hM hPx hNy hls hld hbx hdx)
            | (go_at_call 18; refine (put_ownR (P := fun k => k = q ∨ k = w.heap.size) (B := w.heap.size + 1) (C := wq.heap.size) (s := sa) (d := da) (by exact (HQ.out.2.win (.inr (.inl (by omega))) BX.out.win).keep (by repeat first | exact Below.refl _ _ | exact (Below.refl _ _).drew | refine bAlloc ?_ _ | refine Below.drew ?_)) (AX.out.keep (by repeat first | exact Below.refl _ _ | exact (Below.refl _ _).drew | refine bAlloc ?_ _ | refine Below.drew ?_)) (by omega)).mono ?_; rintro r wy ⟨vy, I, ok, rfl, hzy, hby⟩; obtain ⟨ya, ym, yc, yt, ua, un, uc, rfl, _, _⟩ := hzy.form; have BY : Hid (But g wq wy) := BX.out.next (bTrans (show Below wx.heap.size wx _ from (by repeat first | exact Below.refl _ _ | exact (Below.refl _ _).drew | refine bAlloc ?_ _ | refine Below.drew ?_)) hby); have DY : Hid (DrawOk B g wy) := DX.out.next (bTrans (show Below wx.heap.size wx _ from (by repeat first | exact Below.refl _ _ | exact (Below.refl _ _).drew | refine bAlloc ?_ _ | refine Below.drew ?_)) hby); have ZY := hzy; have hl1 := sizeBelowH (w := wx) (show Below wx.heap.size wx _ from (by repeat first | exact Below.refl _ _ | exact (Below.refl _ _).drew | refine bAlloc ?_ _ | refine Below.drew ?_)); (try have bqa : Hid (Box3 wy wq.heap.size (.slice none 0 0) (.int .i64 0) (.slice none 0 0) 28) := bq.out.keep (bTrans (show Below wx.heap.size wx _ from (by repeat first | exact Below.refl _ _ | exact (Below.refl _ _).drew | refine bAlloc ?_ _ | refine Below.drew ?_)) hby)); (first | have bqb : Hid (Box3 wy wx.heap.size (.slice none 0 0) (.int .i64 0) (.slice none 0 0) 28) := Box3.keep (w := World.drew (World.alloc wx ZH)) (box3_new wx _ _ _ _) hby | have bqb : Hid (Box3 wy wx.heap.size (.slice none 0 0) (.int .i64 0) (.slice none 0 0) 28) := Box3.keep (w := World.alloc wx ZH) (box3_new wx _ _ _ _) hby | skip); (try have lqb : Hid (wx.heap.size < (World.drew (World.alloc wx ZH)).heap.size) := lt_allocD wx _); (try have m0 := bqa.out.c0); (try have m1 := bqa.out.c1); (try have m2 := bqa.out.c2); (try have m0 := bqb.out.c0); (try have m1 := bqb.out.c1); (try have m2 := bqb.out.c2); (try have f0 := bqa.out.free 0); (try have f1 := bqa.out.free 1); (try have f2 := bqa.out.free 2); (try have f0 := bqb.out.free 0); (try have f1 := bqb.out.free 1); (try have f2 := bqb.out.free 2); clear hby))
        all_goals
          go_wp2_with fail
          go_meet
          case rel =>
            first
              | (refine ⟨wy.heap.size, I, ok, ?_, ?_, ?_, ?_⟩; with_reducible rfl; with_reducible rfl; with_reducible rfl; exact hp_new_box AQ.out hql BY.out DY.out HQ.out ZY (by omega))
              | (refine ⟨wq.heap.size, I, ok, ?_, ?_, ?_, ?_⟩; with_reducible rfl; with_reducible rfl; with_reducible rfl; exact hp_old_box AQ.out hql BY.out DY.out HQ.out ZY bqa.out ⟨Nat.le_refl _, Nat.lt_of_lt_of_le lq.out hl1⟩)
              | (refine ⟨wx.heap.size, I, ok, ?_, ?_, ?_, ?_⟩; with_reducible rfl; with_reducible rfl; with_reducible rfl; exact hp_old_box AQ.out hql BY.out DY.out HQ.out ZY bqb.out ⟨hsX2, by first | (simp; done) | exact lqb.out⟩)
      case rest =>
        obtain ⟨g6, I, ok, rfl, rfl, rfl, hst⟩ := hcut
        obtain ⟨w7, hwc⟩ : ∃ x, x = wc := ⟨_, rfl⟩
        subst hwc
        have S7 : Hid (HpSt B g w.heap.size q w xa xm xc t za zn zc g6 w7) := hst
        have D7 : DrawOk B g w7 := by obtain ⟨_, _, _, _, _, _, _, _, _, _, _, _, _, _, hd⟩ := hst; exact hd
        have hzn : zn ≤ 200 := by obtain ⟨_, _, _, _, _, _, _, e, _, h⟩ := HQ.out.2.form; cases e; exact h
        clear hst AQ DQ HQ KB x0 x1 x2 hql
        go_wp2_with fail
        refine (below_small D7 4 (by decide) (by decide)).mono ?_
        rintro e w8 ⟨y, y1, y2, rfl, hb, hd⟩
        have S8 : Hid (HpSt B g w.heap.size q w xa xm xc t za zn zc g6 w8) := S7.out.but hb hd
        clear hb hd S7 D7
        have FIN : True := trivial
        by_cases m0 : y = 0
        · subst m0
          have D8 : Hid (DrawOk B g w8) := by obtain ⟨_, _, _, _, _, _, _, _, _, _, _, _, _, _, hd⟩ := S8.out; exact hd
          obtain ⟨_, _, _, _, _, _, _, _, _, hq8, _, _, hh8, _, _⟩ := S8.out
          have Q8 : Hid (Box3 w8 q (.slice xa xm xc) (.int .i64 t) (.slice za zn zc) 28) := hq8
          have hgq : q ≠ g6 := by omega
          have HGC : Hid (q < g ∨ g + 1 ≤ q) := .inr (by omega)
          have HLT : Hid (g6 < w8.heap.size ∧ q < w8.heap.size ∧ w.heap.size < w8.heap.size) := by have := hq8.lt; obtain ⟨_, _, _, _, _, _, _, b6, _⟩ := S8.out; have := b6.lt; exact ⟨by omega, by omega, by omega⟩
          have x0 := hq8.c0
          have x1 := hq8.c1
          have x2 := hq8.c2
          clear hq8
          obtain ⟨mz, hmz⟩ : ∃ mz : Int, mz = mx (zn : Int) 1 := ⟨_, rfl⟩
          have hmz0 : 0 < mz := by rw [hmz]; unfold mx; split <;> omega
          have HM : Hid (mz = mx (zn : Int) 1) := hmz
          clear hmz
          obtain ⟨_, _, _, _, _, _, _, b6, _⟩ := S8.out
          have hg6 := b6.lt
          clear b6
          go_wp2_with fail
          go_region_held3 (fun w' => w'.cell? ⟨q, 0, none⟩ = some (.slice xa xm xc) ∧ w'.cell? ⟨q, 1, none⟩ = some (.int .i64 t) ∧ w'.cell? ⟨q, 2, none⟩ = some (.slice za zn zc))
            (first | exact ⟨x0, x1, x2⟩ | (refine Box3.cells (ty := 28) ?_; (repeat first | exact Q8.out | exact QX.out | exact QY.out | refine Box3.other ?_ hgq _); done) | go_keep)
            (first
              | (go_at_call 108; refine (max_spec _ _ _).mono ?_; rintro r wm ⟨rfl, hw⟩; subst wm; rw [← HM.out])
              | (go_at_call 42; refine (below_any (B := B) (g := g) (by repeat first | exact D8.out | refine DrawOk.drew1 ?_) mz hmz0).mono ?_; rintro r wx ⟨z, z1, z2, rfl, hbx, hdx⟩; have BX : Hid (But g w8 wx) := But.trans (by repeat first | exact But.refl _ _ | refine But.drew1 ?_) hbx; have SX : Hid (HpSt B g w.heap.size q w xa xm xc t za zn zc g6 wx) := S8.out.but BX.out hdx; have QX : Hid (Box3 wx q (.slice xa xm xc) (.int .i64 t) (.slice za zn zc) 28) := Q8.out.win BX.out.win HGC.out; clear hbx hdx)
              | (go_at_call 24; refine (drop_right (P := fun k => k = g6 ∨ k = q ∨ k = w.heap.size) (B := w.heap.size + 1) (C := wx.heap.size) z (by obtain ⟨_, _, _, _, _, _, _, _, _, _, h, _⟩ := SX.out; exact h.keep (by repeat first | exact Below.refl _ _ | exact (Below.refl _ _).drew | refine Below.drew ?_))).mono ?_; rintro r wy ⟨vy, ok', rfl, hzy, hby⟩; obtain ⟨ya, ym, yc, yt, ua, un, uc, rfl, _, _⟩ := hzy.form; have SY : Hid (HpSt B g w.heap.size q w xa xm xc t za zn zc g6 wy) := SX.out.keep (bTrans (show Below wx.heap.size wx _ from (by repeat first | exact Below.refl _ _ | exact (Below.refl _ _).drew | refine Below.drew ?_)) hby); have ZY : Hid (HZR (fun _ => False) wx.heap.size wy.heap.size wy (.agg #[.slice ya ym yc, .int .i64 yt, .slice ua un uc])) := hzy.mono (sizeBelowH (w := wx) (show Below wx.heap.size wx _ from (by repeat first | exact Below.refl _ _ | exact (Below.refl _ _).drew | refine Below.drew ?_))) (Nat.le_refl _); have QY : Hid (Box3 wy q (.slice xa xm xc) (.int .i64 t) (.slice za zn zc) 28) := QX.out.keep (bTrans (show Below wx.heap.size wx _ from (by repeat first | exact Below.refl _ _ | exact (Below.refl _ _).drew | refine Below.drew ?_)) hby); (obtain ⟨_, _, _, _, _, _, _, b6, _⟩ := SY.out); have m0 := b6.c0; have m1 := b6.c1; have m2 := b6.c2; have f0 := b6.free 0; have f1 := b6.free 1; have f2 := b6.free 2; clear b6; clear hzy hby))
          all_goals
            have hbs := BX.out.size
            have SZ : Hid (HpSt B g w.heap.size q w xa xm xc t za zn zc g6 (((wy.setCell ⟨g6, 0, none⟩ (.slice ya ym yc)).setCell ⟨g6, 1, none⟩ (.int .i64 yt)).setCell ⟨g6, 2, none⟩ (.slice ua un uc))) := SY.out.put ZY.out ⟨Nat.lt_of_lt_of_le HLT.out.1 hbs, Nat.lt_of_lt_of_le HLT.out.2.1 hbs, Nat.lt_of_lt_of_le HLT.out.2.2 hbs⟩
            go_upto_region 12 with fail
            clear m0 m1 m2 f0 f1 f2 S8 Q8 QX QY D8 x0 x1 x2
            generalize ((wy.setCell ⟨g6, 0, none⟩ (.slice ya ym yc)).setCell ⟨g6, 1, none⟩ (.int .i64 yt)).setCell ⟨g6, 2, none⟩ (.slice ua un uc) = wz at *
            obtain ⟨na, nm, nc, nt, ua, un, uc, b6, _, bq, _⟩ := SZ.out
            have HB6 : Hid (Box3 _ g6 (.slice na nm nc) (.int .i64 nt) (.slice ua un uc) 28) := b6
            have r0 := b6.c0
            have r1 := b6.c1
            have r2 := b6.c2
            have x0 := bq.c0
            have x1 := bq.c1
            have x2 := bq.c2
            have f0 := bq.free 0
            have f1 := bq.free 1
            have f2 := bq.free 2
            clear b6 bq
            cases ok'
            · go_wp2
              go_roundw
              case rel => exact ⟨k + 1, by omega, by go_num, SZ.out.stay⟩
              case measure => simp [intOf]; omega
            · go_wp2
              go_roundw
              case rel => exact ⟨k + 1, by omega, by go_num, SZ.out.take HB6.out⟩
              case measure => simp [intOf]; omega
        by_cases m1 : y = 1
        · subst m1
          have D8 : Hid (DrawOk B g w8) := by obtain ⟨_, _, _, _, _, _, _, _, _, _, _, _, _, _, hd⟩ := S8.out; exact hd
          go_wp2_with fail
          refine (once_spec D8.out 4 (by decide) (by decide)).mono ?_
          rintro e w9 ⟨b, rfl, hb, hd⟩
          have S9 : Hid (HpSt B g w.heap.size q w xa xm xc t za zn zc g6 w9) := S8.out.but hb hd
          clear hb hd S8 D8
          cases b
          · obtain ⟨na, nm, nc, nt, ua, un, uc, b6, _, bq, _⟩ := S9.out
            have HB6 : Hid (Box3 _ g6 (.slice na nm nc) (.int .i64 nt) (.slice ua un uc) 28) := b6
            have r0 := b6.c0
            have r1 := b6.c1
            have r2 := b6.c2
            have x0 := bq.c0
            have x1 := bq.c1
            have x2 := bq.c2
            have f0 := bq.free 0
            have f1 := bq.free 1
            have f2 := bq.free 2
            clear b6 bq
            cases ok
            · go_wp2
              go_roundw
              case rel => exact ⟨k + 1, by omega, by go_num, S9.out.stay⟩
              case measure => simp [intOf]; omega
            · go_wp2
              go_roundw
              case rel => exact ⟨k + 1, by omega, by go_num, S9.out.take HB6.out⟩
              case measure => simp [intOf]; omega
          · obtain ⟨_, _, _, _, _, _, _, _, _, bq, hz9, _⟩ := S9.out
            have HZ9 : Hid (HZR (fun k => k = g6 ∨ k = q ∨ k = w.heap.size) (w.heap.size + 1) w9.heap.size w9 (hv xa xm xc t za zn zc)) := hz9
            have x0 := bq.c0
            have x1 := bq.c1
            have x2 := bq.c2
            have hq9 := bq.lt
            clear bq hz9
            go_wp2_with fail
            refine (pack_right HZ9.out).mono ?_
            rintro r wy ⟨vy, ok', rfl, hzy, hby⟩
            obtain ⟨ya, ym, yc, yt, ua, un, uc, rfl, _, _⟩ := hzy.form
            have SY : Hid (HpSt B g w.heap.size q w xa xm xc t za zn zc g6 wy) := S9.out.keep hby
            have ZY : Hid (HZR (fun _ => False) w9.heap.size wy.heap.size wy (.agg #[.slice ya ym yc, .int .i64 yt, .slice ua un uc])) := hzy
            have hsy := hby.size
            obtain ⟨_, _, _, _, _, _, _, b6, _, _, _, _, hh, _⟩ := SY.out
            have hg6 : g6 < w9.heap.size := by obtain ⟨_, _, _, _, _, _, _, b6, _⟩ := S9.out; exact b6.lt
            have r0 := b6.c0
            have r1 := b6.c1
            have r2 := b6.c2
            have f0 := b6.free 0
            have f1 := b6.free 1
            have f2 := b6.free 2
            have SZ : Hid (HpSt B g w.heap.size q w xa xm xc t za zn zc g6 (((wy.setCell ⟨g6, 0, none⟩ (.slice ya ym yc)).setCell ⟨g6, 1, none⟩ (.int .i64 yt)).setCell ⟨g6, 2, none⟩ (.slice ua un uc))) := SY.out.put ZY.out ⟨by omega, by omega, by omega⟩
            clear hzy hby b6 x0 x1 x2
            go_upto_region 12 with fail
            clear r0 r1 r2 f0 f1 f2
            generalize ((wy.setCell ⟨g6, 0, none⟩ (.slice ya ym yc)).setCell ⟨g6, 1, none⟩ (.int .i64 yt)).setCell ⟨g6, 2, none⟩ (.slice ua un uc) = wz at *
            obtain ⟨na, nm, nc, nt, ua, un, uc, b6, _, bq, _⟩ := SZ.out
            have HB6 : Hid (Box3 _ g6 (.slice na nm nc) (.int .i64 nt) (.slice ua un uc) 28) := b6
            have r0 := b6.c0
            have r1 := b6.c1
            have r2 := b6.c2
            have x0 := bq.c0
            have x1 := bq.c1
            have x2 := bq.c2
            have f0 := bq.free 0
            have f1 := bq.free 1
            have f2 := bq.free 2
            clear b6 bq
            cases ok'
            · go_wp2
              go_roundw
              case rel => exact ⟨k + 1, by omega, by go_num, SZ.out.stay⟩
              case measure => simp [intOf]; omega
            · go_wp2
              go_roundw
              case rel => exact ⟨k + 1, by omega, by go_num, SZ.out.take HB6.out⟩
              case measure => simp [intOf]; omega
        · have m0b : (y == 0) = false := by simp [m0]
          have m1b : (y == 1) = false := by simp [m1]
          obtain ⟨na, nm, nc, nt, ua, un, uc, b6, _, bq, _⟩ := S8.out
          have HB6 : Hid (Box3 _ g6 (.slice na nm nc) (.int .i64 nt) (.slice ua un uc) 28) := b6
          have r0 := b6.c0
          have r1 := b6.c1
          have r2 := b6.c2
          have x0 := bq.c0
          have x1 := bq.c1
          have x2 := bq.c2
          have f0 := bq.free 0
          have f1 := bq.free 1
          have f2 := bq.free 2
          clear b6 bq
          cases ok
          · go_wp2
            go_roundw
            case rel => exact ⟨k + 1, by omega, by go_num, S8.out.stay⟩
            case measure => simp [intOf]; omega
          · go_wp2
            go_roundw
            case rel => exact ⟨k + 1, by omega, by go_num, S8.out.take HB6.out⟩
            case measure => simp [intOf]; omega
    · obtain ⟨xa, xm, xc, t, za, zn, zc, hx, hz, hr, hle, hb, hd⟩ := AQ.out
      have HZQ : Hid (HZR (fun k => k = q ∨ k = w.heap.size) (w.heap.size + 1) wq.heap.size wq (hv xa xm xc t za zn zc)) := hz
      have HRQ : Hid (Box3 wq w.heap.size (.slice none 0 0) (.int .i64 0) (.slice none 0 0) 28) := hr
      have HBQ : Hid (But g w wq) := hb
      have x0 := hx.c0
      have x1 := hx.c1
      have x2 := hx.c2
      have r0 := hr.c0
      have r1 := hr.c1
      have r2 := hr.c2
      have f0 := hr.free 0
      have f1 := hr.free 1
      have f2 := hr.free 2
      clear hx hz hr hb hd
      go_wp2
      clear r0 r1 r2 f0 f1 f2
      have YZ : Box3 (((wq.setCell ⟨w.heap.size, 0, none⟩ (.slice xa xm xc)).setCell ⟨w.heap.size, 1, none⟩ (.int .i64 t)).setCell ⟨w.heap.size, 2, none⟩ (.slice za zn zc)) w.heap.size (.slice xa xm xc) (.int .i64 t) (.slice za zn zc) 28 := ((HRQ.out.set0 _).set1 _).set2 _
      have hw := win3 wq w.heap.size (.slice xa xm xc) (.int .i64 t) (.slice za zn zc)
      have hs := size3 wq w.heap.size (.slice xa xm xc) (.int .i64 t) (.slice za zn zc)
      have hc : But w.heap.size wq (((wq.setCell ⟨w.heap.size, 0, none⟩ (.slice xa xm xc)).setCell ⟨w.heap.size, 1, none⟩ (.int .i64 t)).setCell ⟨w.heap.size, 2, none⟩ (.slice za zn zc)) := (((But.refl _ _).setCell _ _).setCell _ _).setCell _ _
      have ZZ : HZR (fun k => k = w.heap.size) (w.heap.size + 1) (((wq.setCell ⟨w.heap.size, 0, none⟩ (.slice xa xm xc)).setCell ⟨w.heap.size, 1, none⟩ (.int .i64 t)).setCell ⟨w.heap.size, 2, none⟩ (.slice za zn zc)).heap.size (((wq.setCell ⟨w.heap.size, 0, none⟩ (.slice xa xm xc)).setCell ⟨w.heap.size, 1, none⟩ (.int .i64 t)).setCell ⟨w.heap.size, 2, none⟩ (.slice za zn zc)) (hv xa xm xc t za zn zc) := ((HZQ.out.win (.inl (.inr rfl)) hw).more fun k hk => .inl (.inr hk)).mono (Nat.le_refl _) (by omega)
      have BZ : But g w (((wq.setCell ⟨w.heap.size, 0, none⟩ (.slice xa xm xc)).setCell ⟨w.heap.size, 1, none⟩ (.int .i64 t)).setCell ⟨w.heap.size, 2, none⟩ (.slice za zn zc)) := ((HBQ.out.setNew (by omega) _ _).setNew (by omega) _ _).setNew (by omega) _ _
      have DZ : DrawOk B g (((wq.setCell ⟨w.heap.size, 0, none⟩ (.slice xa xm xc)).setCell ⟨w.heap.size, 1, none⟩ (.int .i64 t)).setCell ⟨w.heap.size, 2, none⟩ (.slice za zn zc)) := DQ.out.but hc (by omega)
      generalize ((wq.setCell ⟨w.heap.size, 0, none⟩ (.slice xa xm xc)).setCell ⟨w.heap.size, 1, none⟩ (.int .i64 t)).setCell ⟨w.heap.size, 2, none⟩ (.slice za zn zc) = wz at *
      have v0 := YZ.c0
      have v1 := YZ.c1
      have v2 := YZ.c2
      refine bodyPost_ret (v := hv xa xm xc t za zn zc) (by simp [results, Try.results87, go_sem, v0, v1, v2]) rfl ?_
      exact ⟨_, rfl, ZZ, BZ, DZ⟩
end Go.Proofs.Ytmmjidhpmbcoiaa
namespace Go.Proofs.Ytmmjidhpmbcoiaa
open Go.RowKit
set_option linter.unusedVariables false
set_option linter.unusedSimpArgs false
/-- What is known of a drawn heap. -/
def HpV (W : List Int) (t : Int) (n : Nat) (E : Nat → Cel) : Prop := ((∀ i, in64 (E i).f ∧ in64 (E i).l) ∧ in64 t) ∧ W.length ≤ 6000 ∧ n ≤ 201
/-- The heap at work, in its box q. -/
def HqSt (B g q : Nat) (w w' : World) (xa : Option Addr) (xc : Nat) (za : Option Addr) (zc : Nat) (W : List Int) (t : Int) (n : Nat) (E : Nat → Cel) : Prop :=
  HB2 (w.heap.size + 1) (fun k => k = g ∨ k = w.heap.size) q w' (.slice xa W.length xc) (.slice za n zc) W t n E ∧ Box3 w' w.heap.size (.slice none 0 0) (.int .i64 0) (.slice none 0 0) 28 ∧ But g w w' ∧ DrawOk B g w'
/-- The heap as it is answered. -/
def HqEnd (B g q : Nat) (w w' : World) (xa : Option Addr) (xc : Nat) (za : Option Addr) (zc : Nat) (W : List Int) (t : Int) (n : Nat) (E : Nat → Cel) : Prop :=
  Box3 w' q (.slice xa W.length xc) (.int .i64 t) (.slice za n zc) 28 ∧ HX (w.heap.size + 1) w'.heap.size w' (.agg #[.slice xa W.length xc, .int .i64 t, .slice za n zc]) W t n E ∧ Box3 w' w.heap.size (.slice none 0 0) (.int .i64 0) (.slice none 0 0) 28 ∧ w.heap.size < q ∧ But g w w' ∧ DrawOk B g w'
section
variable {B g q : Nat} {w w' w'' : World} {xa za : Option Addr} {xc zc : Nat} {W : List Int} {t : Int} {n : Nat} {E : Nat → Cel}
theorem HqSt.but (h : HqSt B g q w w' xa xc za zc W t n E) (hb : But g w' w'') (hd : DrawOk B g w'') (hg : g < w.heap.size) : HqSt B g q w w'' xa xc za zc W t n E :=
  ⟨h.1.other (.inl rfl) hb.win, h.2.1.win hb.win (by omega), h.2.2.1.trans hb, hd⟩
theorem HqSt.fin (h : HqSt B g q w w' xa xc za zc W t n E) : HqEnd B g q w w' xa xc za zc W t n E :=
  ⟨h.1.box, h.1.hx, h.2.1, by have := h.1.le; omega, h.2.2⟩
theorem butSet (hb : But g w w') {k : Nat} (hk : w.heap.size ≤ k) (o : Nat) (u : Value) : But g w (w'.setCell ⟨k, o, none⟩ u) := hb.setNew hk o u
theorem drawSet (hd : DrawOk B g w') {k : Nat} (hk : g < k) (o : Nat) (u : Value) : DrawOk B g (w'.setCell ⟨k, o, none⟩ u) := hd.but (((But.refl k w').setCell o u)) hk
theorem HqSt.top (h : HqSt B g q w w' xa xc za zc W t n E) (hg : g < w.heap.size) (t' : Int) : HqEnd B g q w (w'.setCell ⟨q, 1, none⟩ (.int .i64 t')) xa xc za zc W t' n E := by
  have hle := h.1.le
  have := h.1.top t'
  exact ⟨this.box, this.hx, h.2.1.win (win_setCell w' q 1 _) (by omega), by omega, butSet h.2.2.1 (by omega) _ _, drawSet h.2.2.2 (by omega) _ _⟩
theorem HqSt.word (h : HqSt B g q w w' xa xc za zc W t n E) (hg : g < w.heap.size) {k : Nat} (hk : k < W.length) :
    ∃ gw off, xa = some ⟨gw, off, none⟩ ∧ (w.heap.size + 1 ≤ gw) ∧ w'.cell? ⟨gw, off + k, none⟩ = some (.int .i64 (W.getD k 0)) ∧ w'.frozen? ⟨gw, off + k, none⟩ = false ∧ ∀ u : Int, HqEnd B g q w (w'.setCell ⟨gw, off + k, none⟩ (.int .i64 u)) xa xc za zc (W.set k u) t n E := by
  have hle := h.1.le
  obtain ⟨gw, off, e, h1, h2, h3, h4, h5⟩ := h.1.word hk
  refine ⟨gw, off, e, h1, h3, h4, fun u => ?_⟩
  have := h5 u
  have bx := this.box
  have hx := this.hx
  have el : (W.set k u).length = W.length := by simp
  unfold HqEnd
  rw [el]
  exact ⟨bx, hx, h.2.1.win (win_setCell w' gw _ _) (by omega), by omega, butSet h.2.2.1 (by omega) _ _, drawSet h.2.2.2 (by omega) _ _⟩
theorem HqSt.grow (h : HqSt B g q w w' xa xc za zc W t n E) (hg : g < w.heap.size) (hn : n ≤ 1048576) (u : Cel) :
    ∃ a' c' w2, (∀ ty, (Builtin.append_ #[26, 26] ty #[.slice za n zc, .slice (some ⟨w'.heap.size, 0, none⟩) 1 1]).run Try.prog (w'.alloc (.cells #[.int .i64 u.f, .int .i64 u.l, .bool u.v] 47)) = .ok (.slice a' (n + 1) c') w2) ∧
      Box3 w2 q (.slice xa W.length xc) (.int .i64 t) (.slice za n zc) 28 ∧ HqEnd B g q w (w2.setCell ⟨q, 2, none⟩ (.slice a' (n + 1) c')) xa xc a' c' W t (n + 1) (up E n u) := by
  have hle := h.1.le
  have hs := h.2.2.1.size
  obtain ⟨a', c', w2, hr, hbx, hh, hb, hF⟩ := h.1.grow hn (by omega) u
  refine ⟨a', c', w2, hr, hbx, hh.box, hh.hx, ?_, by omega, ?_, ?_⟩
  · have : Box3 w2 w.heap.size (.slice none 0 0) (.int .i64 0) (.slice none 0 0) 28 := by unfold Box3; rw [hF _ (.inr rfl)]; exact h.2.1
    exact this.win (win_setCell w2 q 2 _) (by omega)
  · refine butSet ⟨hb.os.trans h.2.2.1.os, hb.tape.trans h.2.2.1.tape, hb.output.trans h.2.2.1.output, Nat.le_trans hs hb.size, fun k hk hne => ?_⟩ (by omega) _ _
    rw [hb.block k (by omega)]
    exact h.2.2.1.block k hk hne
  · have hd : DrawOk B g w2 := by
      have d := h.2.2.2
      exact ⟨d.1, Nat.le_trans d.2.1 hb.size, by
        obtain ⟨_, _, a, len, cap, i, x, hc, hsr⟩ := d
        exact ⟨a, len, cap, i, x, by rw [hF g (.inl rfl)]; exact hc, hsr.keep (hb.mono (by have := h.2.2.2.1; omega))⟩⟩
    exact drawSet hd (by omega) _ _
theorem HqSt.made (h : HqSt B g q w w' xa xc za zc W t n E) (hg : g < w.heap.size) {m : Nat} {w2 : World} {E2 : Nat → Cel} (hb : Below w'.heap.size w' w2) (hz : CPiece w'.heap.size w2.heap.size w2 (.slice (some ⟨w'.heap.size, 0, none⟩) m m) m E2) :
    HqEnd B g q w (w2.setCell ⟨q, 2, none⟩ (.slice (some ⟨w'.heap.size, 0, none⟩) m m)) xa xc (some ⟨w'.heap.size, 0, none⟩) m W t m E2 := by
  have hle := h.1.le
  have hs := h.2.2.1.size
  have hs2 := hb.size
  have hw := win_setCell w2 q 2 (.slice (some ⟨w'.heap.size, 0, none⟩) m m)
  obtain ⟨⟨B1, C1, B2, C2, h1, h2, h3, h4, h5, hF, h6, h7⟩, _⟩ := h.1
  exact ⟨(h1.keep hb).set2 _, ⟨_, _, B1, C1, w'.heap.size, w2.heap.size, rfl, by have := hw.size; omega, .inl (by omega), (h6.keep hb).win hw (by omega), hz.win hw (by omega)⟩, (h.2.1.keep hb).win hw (by omega), by omega, butSet (h.2.2.1.next hb) (by omega) _ _, drawSet (h.2.2.2.next hb) (by omega) _ _⟩
end
theorem boxLen {w : World} {q j : Nat} {a : Option Addr} {c : Nat} {W : List Int} {u : Int} {y z : Value} {ty : TypeId} (h : Box3 w q (.slice a (W.set j u).length c) y z ty) : Box3 w q (.slice a W.length c) y z ty := by rwa [List.length_set] at h
theorem step_append_row {ops : Array Oper} {o : Oper} {a : Act} {w : World} {K : Act → World → Prop} {Q : Exit → Act → World → Prop} {X : Prop} {T : TypeId} (hgd : o.guard = none) (s x : Operand)
    (ho : o.op = .call { callee := .builtin .append, args := #[s, x], argTypes := #[T, T] }) (vs vx v' : Value) (w' : World) (hs : a.eval s = vs) (hx : a.eval x = vx)
    (hrun : ∀ ty, (Builtin.append_ #[T, T] ty #[vs, vx]).run Try.prog w = .ok v' w') (hK : K (a.put o.dst v') w') :
    if Region.wanted o (yielded ops a.tmps) = true then Oper.wp Try.prog o a w K Q else X := by
  have hw : Region.wanted o (yielded ops a.tmps) = true := by simp [Region.wanted, hgd]
  rw [if_pos hw]
  unfold Oper.wp
  simp [execOp, ho, resolve, invoke, builtin, hs, hx, hrun, Result.andThen]
  exact hK
set_option maxRecDepth 20000 in
set_option maxHeartbeats 16000000 in
/-- l13Draw. -/
theorem heapAny_draw {B g : Nat} {w : World} (hd : DrawOk B g w) :
    Calls Try.prog 51 #[.pointer (some ⟨g, 0, none⟩)] w fun e w' => ∃ v W t n E, e = .returned v ∧ HX (w.heap.size + 1) w'.heap.size w' v W t n E ∧ HpV W t n E ∧ But g w w' ∧ DrawOk B g w' := by
  have hg := hd.lt
  have HD : Hid (DrawOk B g w) := hd
  clear hd
  go_enter Try.func51, Try.ntmps51
  go_upto_region 1 with fail
  generalize hW : w.alloc ZH = wa
  have HSA : Hid (wa.heap.size = w.heap.size + 1) := by show _ = _; rw [← hW]; simp
  have BA : Hid (But g w wa) := by rw [← hW]; exact (But.refl g w).alloc _
  have DA : Hid (DrawOk B g wa) := by rw [← hW]; exact HD.out.alloc _
  have RA : Hid (Box3 wa w.heap.size (.slice none 0 0) (.int .i64 0) (.slice none 0 0) 28) := by rw [← hW]; exact box3_new w _ _ _ _
  clear hW HD
  go_wp2_with fail
  refine (heapRight_draw DA.out).mono ?_
  rintro e w1 ⟨v, rfl, hz, hb, hd⟩
  obtain ⟨W, t, n, E, hx, hk, hz0⟩ := hz
  obtain ⟨xa, xc, za, zc, rfl⟩ := hx.hx.form
  have hs1 : w.heap.size + 1 ≤ w1.heap.size := by have := hb.size; have := HSA.out; omega
  have B1 : Hid (But g w w1) := BA.out.trans hb
  have D1 : Hid (DrawOk B g w1) := hd
  have R1 : Hid (Box3 w1 w.heap.size (.slice none 0 0) (.int .i64 0) (.slice none 0 0) 28) := RA.out.win hb.win (by have := HSA.out; omega)
  have HZ1 : Hid (HXZ (fun k => k = wa.heap.size) (wa.heap.size + 1) w1.heap.size w1 (.agg #[.slice xa W.length xc, .int .i64 t, .slice za n zc]) W t n E) := hx
  have HK : Hid (hOk W.length t n E ∧ ∀ i, n ≤ i → E i = cel0) := ⟨hk, hz0⟩
  have hWl : W.length ≤ 6000 := hk.1
  have ht0 : 0 ≤ t := hk.2.1
  have htW : t ≤ W.length := hk.2.2.1
  have hn2 : n ≤ 200 := hk.2.2.2.1
  clear hb hd hx hk hz0 BA DA RA
  go_wp2_with fail
  generalize hW : w1.alloc (.cells #[.slice xa W.length xc, .int .i64 t, .slice za n zc] 28) = w2
  have b2 : Below w1.heap.size w1 w2 := by rw [← hW]; exact bAlloc (Below.refl _ _) _
  have S2 : Hid (HqSt B g w1.heap.size w w2 xa xc za zc W t n E) := by
    have bx : Box3 w2 w1.heap.size (.slice xa W.length xc) (.int .i64 t) (.slice za n zc) 28 := by rw [← hW]; exact box3_new w1 _ _ _ _
    have hl := bx.lt
    refine ⟨HB2.lay (HZ1.out.keep b2).hx (HX.zcap (B := 0) (C := 0) (W := W) (t := t) (E := E) (HZ1.out.keep b2).2) bx (by omega) (.inr (Nat.le_refl _)) ⟨by have := HSA.out; omega, by have := HSA.out; omega⟩ fun k hk => ?_, R1.out.keep b2, B1.out.next b2, D1.out.next b2⟩
    have := HSA.out
    rcases hk with e | e <;> omega
  clear hW b2 B1 D1 R1 HZ1
  obtain ⟨q, hq⟩ : ∃ q, q = w1.heap.size := ⟨_, rfl⟩
  rw [← hq] at S2 ⊢
  clear hq hs1
  refine (below_small S2.out.2.2.2 25 (by decide) (by decide)).mono ?_
  rintro e w3 ⟨y, y1, y2, rfl, hb, hd⟩
  have S3 : Hid (HqSt B g q w w3 xa xc za zc W t n E) := S2.out.but hb hd hg
  clear hb hd S2
  by_cases m0 : y = 0
  · subst m0
    go_wp2_with fail
    refine (below_small S3.out.2.2.2 120 (by decide) (by decide)).mono ?_
    rintro e w4 ⟨z, z1, z2, rfl, hb, hd⟩
    have S4 : Hid (HqSt B g q w w4 xa xc za zc W t n E) := S3.out.but hb hd hg
    clear hb hd S3
    have c1 := S4.out.1.box.c1
    have f1 := S4.out.1.box.free 1
    have T5 : Hid (HqEnd B g q w (w4.setCell ⟨q, 1, none⟩ (.int .i64 (z - 2))) xa xc za zc W (z - 2) n E) := S4.out.top hg _
    have V5 : Hid (HpV W (z - 2) n E) := ⟨⟨(right_in HK.out.1 HK.out.2).1, by unfold in64; omega⟩, hWl, by omega⟩
    clear S4
    go_upto_region 12 with fail
    clear c1 f1
    generalize w4.setCell ⟨q, 1, none⟩ (.int .i64 (z - 2)) = wf at *
    obtain ⟨bx, hx, hr, hlt, hb, hd⟩ := T5.out
    have HXF : Hid (HX (w.heap.size + 1) wf.heap.size wf (.agg #[.slice xa (W).length xc, .int .i64 (z - 2), .slice za n zc]) W (z - 2) n E) := hx
    have HRF : Hid (Box3 wf w.heap.size (.slice none 0 0) (.int .i64 0) (.slice none 0 0) 28) := hr
    have HBF : Hid (But g w wf) := hb
    have HDF : Hid (DrawOk B g wf) := hd
    have x0 := bx.c0
    have x1 := bx.c1
    have x2 := bx.c2
    have r0 := hr.c0
    have r1 := hr.c1
    have r2 := hr.c2
    have f0 := hr.free 0
    have f1 := hr.free 1
    have f2 := hr.free 2
    clear bx hx hr hb hd
    go_wp2
    clear r0 r1 r2 f0 f1 f2
    have YZ : Box3 (((wf.setCell ⟨w.heap.size, 0, none⟩ (.slice xa (W).length xc)).setCell ⟨w.heap.size, 1, none⟩ (.int .i64 (z - 2))).setCell ⟨w.heap.size, 2, none⟩ (.slice za n zc)) w.heap.size (.slice xa (W).length xc) (.int .i64 (z - 2)) (.slice za n zc) 28 := ((HRF.out.set0 _).set1 _).set2 _
    have hw := win3 wf w.heap.size (.slice xa (W).length xc) (.int .i64 (z - 2)) (.slice za n zc)
    have hs := size3 wf w.heap.size (.slice xa (W).length xc) (.int .i64 (z - 2)) (.slice za n zc)
    have ZZ : HX (w.heap.size + 1) (((wf.setCell ⟨w.heap.size, 0, none⟩ (.slice xa (W).length xc)).setCell ⟨w.heap.size, 1, none⟩ (.int .i64 (z - 2))).setCell ⟨w.heap.size, 2, none⟩ (.slice za n zc)).heap.size (((wf.setCell ⟨w.heap.size, 0, none⟩ (.slice xa (W).length xc)).setCell ⟨w.heap.size, 1, none⟩ (.int .i64 (z - 2))).setCell ⟨w.heap.size, 2, none⟩ (.slice za n zc)) (.agg #[.slice xa (W).length xc, .int .i64 (z - 2), .slice za n zc]) W (z - 2) n E := (HXF.out.win hw (.inr (Nat.le_refl _))).mono (Nat.le_refl _) (by omega)
    have BZ : But g w (((wf.setCell ⟨w.heap.size, 0, none⟩ (.slice xa (W).length xc)).setCell ⟨w.heap.size, 1, none⟩ (.int .i64 (z - 2))).setCell ⟨w.heap.size, 2, none⟩ (.slice za n zc)) := butSet (butSet (butSet HBF.out (Nat.le_refl _) _ _) (Nat.le_refl _) _ _) (Nat.le_refl _) _ _
    have DZ : DrawOk B g (((wf.setCell ⟨w.heap.size, 0, none⟩ (.slice xa (W).length xc)).setCell ⟨w.heap.size, 1, none⟩ (.int .i64 (z - 2))).setCell ⟨w.heap.size, 2, none⟩ (.slice za n zc)) := drawSet (drawSet (drawSet HDF.out hg _ _) hg _ _) hg _ _
    generalize (((wf.setCell ⟨w.heap.size, 0, none⟩ (.slice xa (W).length xc)).setCell ⟨w.heap.size, 1, none⟩ (.int .i64 (z - 2))).setCell ⟨w.heap.size, 2, none⟩ (.slice za n zc)) = wz at *
    have v0 := YZ.c0
    have v1 := YZ.c1
    have v2 := YZ.c2
    refine bodyPost_ret (v := .agg #[.slice xa (W).length xc, .int .i64 (z - 2), .slice za n zc]) (by simp [results, Try.results51, go_sem, v0, v1, v2]) rfl ?_
    exact ⟨_, W, (z - 2), n, E, rfl, ZZ, V5.out, BZ, DZ⟩
  by_cases m1 : y = 1
  · subst m1
    have KB : Hid (∀ W', But g w3 W' → W'.cell? ⟨q, 2, none⟩ = some (.slice za n zc)) := fun W' hb => ((S3.out.1.box).win hb.win (by have := S3.out.1.le; omega)).c2
    have x2 := S3.out.1.box.c2
    have D3 : Hid (DrawOk B g w3) := S3.out.2.2.2
    go_wp2_with fail
    have Q3 : Hid (Box3 w3 q (.slice xa W.length xc) (.int .i64 t) (.slice za n zc) 28) := S3.out.1.box
    have HGC : Hid (q < g ∨ g + 1 ≤ q) := .inr (by have := S3.out.1.le; omega)
    go_region_law (first
      | (refine step_append_row (by rfl) (.tmp 17) (.tmp 27) (by rfl) _ _ _ _ (by rfl) (by rfl) R5.out ?_)
      | (go_simp; go_at_call_of 42 (Value.int .i64 20); refine (below_small (B := B) (g := g) (by repeat first | exact D3.out | refine DrawOk.drew1 ?_) 20 (by decide) (by decide)).mono ?_; rintro r wx ⟨z, z1, z2, rfl, hbx, hdx⟩; have BX : Hid (But g w3 wx) := But.trans (by repeat first | exact But.refl _ _ | refine But.drew1 ?_) hbx; have DX : Hid (DrawOk B g wx) := hdx; have hwz : IntKind.i64.wrap (z - 1) = z - 1 := (by rw [IntKind.wrap_i64]; omega); have QX : Hid (Box3 wx q (.slice xa W.length xc) (.int .i64 t) (.slice za n zc) 28) := Q3.out.win BX.out.win HGC.out; have cx2 := QX.out.c2; clear hbx hdx; go_simp)
      | (go_simp; go_at_call_of 42 (Value.int .i64 9); refine (below_small (B := B) (g := g) (by repeat first | exact DX.out | refine DrawOk.drew1 ?_) 9 (by decide) (by decide)).mono ?_; rintro r wy ⟨u, u1, u2, rfl, hby, hdy⟩; have BY : Hid (But g w3 wy) := But.trans (by repeat first | exact BX.out | refine But.drew1 ?_) hby; have DY : Hid (DrawOk B g wy) := hdy; have hwu : IntKind.i64.wrap (u - 1) = u - 1 := (by rw [IntKind.wrap_i64]; omega); have QY : Hid (Box3 wy q (.slice xa W.length xc) (.int .i64 t) (.slice za n zc) 28) := Q3.out.win BY.out.win HGC.out; have cy2 := QY.out.c2; clear hby hdy; go_simp)
      | (go_simp; go_at_call 88; refine (once_spec (B := B) (g := g) (by repeat first | exact DY.out | refine DrawOk.drew1 ?_) 2 (by decide) (by decide)).mono ?_; rintro r wz ⟨bb, rfl, hbz, hdz⟩; have BZ : Hid (But g w3 wz) := But.trans (by repeat first | exact BY.out | refine But.drew1 ?_) hbz; have DZ : Hid (DrawOk B g wz) := hdz; have SZ : Hid (HqSt B g q w wz xa xc za zc W t n E) := S3.out.but BZ.out hdz hg; (obtain ⟨a5, c5, w5, r5, bx5, h5⟩ := SZ.out.grow hg (by omega) ⟨z - 1, u - 1, bb⟩); have R5 : Hid (∀ ty, (Builtin.append_ #[26, 26] ty #[.slice za n zc, .slice (some ⟨wz.heap.size, 0, none⟩) 1 1]).run Try.prog (wz.alloc (.cells #[.int .i64 (z - 1), .int .i64 (u - 1), .bool bb] 47)) = .ok (.slice a5 (n + 1) c5) w5) := r5; have H5 : Hid (HqEnd B g q w (w5.setCell ⟨q, 2, none⟩ (.slice a5 (n + 1) c5)) xa xc a5 c5 W t (n + 1) (up E n ⟨z - 1, u - 1, bb⟩)) := h5; have QZ : Hid (Box3 wz q (.slice xa W.length xc) (.int .i64 t) (.slice za n zc) 28) := Q3.out.win BZ.out.win HGC.out; have cz2 := QZ.out.c2; have cz3 : ∀ o : Obj, (wz.alloc o).cell? ⟨q, 2, none⟩ = some (.slice za n zc) := fun o => (QZ.out.keep (bAlloc (Below.refl _ _) o)).c2; have n2 := bx5.c2; have g2 := bx5.free 2; clear hbz hdz r5 h5; go_simp))
    all_goals
      have T5 : Hid (HqEnd B g q w (w5.setCell ⟨q, 2, none⟩ (.slice a5 (n + 1) c5)) xa xc a5 c5 W t (n + 1) (up E n ⟨z - 1, u - 1, bb⟩)) := H5.out
      have V5 : Hid (HpV W t (n + 1) (up E n ⟨z - 1, u - 1, bb⟩)) := ⟨⟨fun i => by
        by_cases e : i = n
        · subst e; rw [up_at]; unfold in64; exact ⟨by show _ ≤ z - 1 ∧ z - 1 ≤ _; omega, by show _ ≤ u - 1 ∧ u - 1 ≤ _; omega⟩
        · rw [up_ne _ _ e]; exact (right_in HK.out.1 HK.out.2).1 i, (right_in HK.out.1 HK.out.2).2⟩, hWl, by omega⟩
      clear n2 g2 cx2 cy2 cz2 cz3 x2 S3 SZ KB D3 DX DY DZ QX QY QZ Q3
      generalize w5.setCell ⟨q, 2, none⟩ (.slice a5 (n + 1) c5) = wf at *
      obtain ⟨bx, hx, hr, hlt, hb, hd⟩ := T5.out
      have HXF : Hid (HX (w.heap.size + 1) wf.heap.size wf (.agg #[.slice xa (W).length xc, .int .i64 t, .slice a5 (n + 1) c5]) W t (n + 1) (up E n ⟨z - 1, u - 1, bb⟩)) := hx
      have HRF : Hid (Box3 wf w.heap.size (.slice none 0 0) (.int .i64 0) (.slice none 0 0) 28) := hr
      have HBF : Hid (But g w wf) := hb
      have HDF : Hid (DrawOk B g wf) := hd
      have x0 := bx.c0
      have x1 := bx.c1
      have x2 := bx.c2
      have r0 := hr.c0
      have r1 := hr.c1
      have r2 := hr.c2
      have f0 := hr.free 0
      have f1 := hr.free 1
      have f2 := hr.free 2
      clear bx hx hr hb hd
      go_wp2
      clear r0 r1 r2 f0 f1 f2
      have YZ : Box3 (((wf.setCell ⟨w.heap.size, 0, none⟩ (.slice xa (W).length xc)).setCell ⟨w.heap.size, 1, none⟩ (.int .i64 t)).setCell ⟨w.heap.size, 2, none⟩ (.slice a5 (n + 1) c5)) w.heap.size (.slice xa (W).length xc) (.int .i64 t) (.slice a5 (n + 1) c5) 28 := ((HRF.out.set0 _).set1 _).set2 _
      have hw := win3 wf w.heap.size (.slice xa (W).length xc) (.int .i64 t) (.slice a5 (n + 1) c5)
      have hs := size3 wf w.heap.size (.slice xa (W).length xc) (.int .i64 t) (.slice a5 (n + 1) c5)
      have ZZ : HX (w.heap.size + 1) (((wf.setCell ⟨w.heap.size, 0, none⟩ (.slice xa (W).length xc)).setCell ⟨w.heap.size, 1, none⟩ (.int .i64 t)).setCell ⟨w.heap.size, 2, none⟩ (.slice a5 (n + 1) c5)).heap.size (((wf.setCell ⟨w.heap.size, 0, none⟩ (.slice xa (W).length xc)).setCell ⟨w.heap.size, 1, none⟩ (.int .i64 t)).setCell ⟨w.heap.size, 2, none⟩ (.slice a5 (n + 1) c5)) (.agg #[.slice xa (W).length xc, .int .i64 t, .slice a5 (n + 1) c5]) W t (n + 1) (up E n ⟨z - 1, u - 1, bb⟩) := (HXF.out.win hw (.inr (Nat.le_refl _))).mono (Nat.le_refl _) (by omega)
      have BZ : But g w (((wf.setCell ⟨w.heap.size, 0, none⟩ (.slice xa (W).length xc)).setCell ⟨w.heap.size, 1, none⟩ (.int .i64 t)).setCell ⟨w.heap.size, 2, none⟩ (.slice a5 (n + 1) c5)) := butSet (butSet (butSet HBF.out (Nat.le_refl _) _ _) (Nat.le_refl _) _ _) (Nat.le_refl _) _ _
      have DZ : DrawOk B g (((wf.setCell ⟨w.heap.size, 0, none⟩ (.slice xa (W).length xc)).setCell ⟨w.heap.size, 1, none⟩ (.int .i64 t)).setCell ⟨w.heap.size, 2, none⟩ (.slice a5 (n + 1) c5)) := drawSet (drawSet (drawSet HDF.out hg _ _) hg _ _) hg _ _
      generalize (((wf.setCell ⟨w.heap.size, 0, none⟩ (.slice xa (W).length xc)).setCell ⟨w.heap.size, 1, none⟩ (.int .i64 t)).setCell ⟨w.heap.size, 2, none⟩ (.slice a5 (n + 1) c5)) = wz at *
      have v0 := YZ.c0
      have v1 := YZ.c1
      have v2 := YZ.c2
      refine bodyPost_ret (v := .agg #[.slice xa (W).length xc, .int .i64 t, .slice a5 (n + 1) c5]) (by simp [results, Try.results51, go_sem, v0, v1, v2]) rfl ?_
      exact ⟨_, W, t, (n + 1), (up E n ⟨z - 1, u - 1, bb⟩), rfl, ZZ, V5.out, BZ, DZ⟩
  by_cases m2 : y = 2
  · subst m2
    have V3 : Hid (HpV W t n E) := ⟨right_in HK.out.1 HK.out.2, hWl, by omega⟩
    have x1 := S3.out.1.box.c1
    by_cases ht : 0 < t
    · have D3 : Hid (DrawOk B g w3) := S3.out.2.2.2
      have Q3 : Hid (Box3 w3 q (.slice xa W.length xc) (.int .i64 t) (.slice za n zc) 28) := S3.out.1.box
      have HGC : Hid (q < g ∨ g + 1 ≤ q) := .inr (by have := S3.out.1.le; omega)
      have HSZ : Hid (w.heap.size + 1 ≤ q) := S3.out.1.le.1
      have x0 := S3.out.1.box.c0
      obtain ⟨gw, off, exa, hgw, _, _, _⟩ := S3.out.word hg (k := 0) (by omega)
      subst exa
      go_wp2_with fail
      go_region_held3 (fun w' => w'.cell? ⟨q, 0, none⟩ = some (.slice (some ⟨gw, off, none⟩) W.length xc) ∧ w'.cell? ⟨q, 1, none⟩ = some (.int .i64 t))
        (first | exact ⟨x0, x1⟩ | (refine ⟨(?_ : Box3 _ q (.slice (some ⟨gw, off, none⟩) W.length xc) (.int .i64 t) (.slice za n zc) 28).c0, (?_ : Box3 _ q (.slice (some ⟨gw, off, none⟩) W.length xc) (.int .i64 t) (.slice za n zc) 28).c1⟩ <;> (repeat first | exact Q3.out | exact QX.out | exact QY.out | exact QZ.out); done) | go_keep)
        (first
          | (go_at_call_of 42 (Value.int .i64 t); refine (below_any (B := B) (g := g) (by repeat first | exact D3.out | refine DrawOk.drew1 ?_) t ht).mono ?_; rintro r wx ⟨z, z1, z2, rfl, hbx, hdx⟩; have BX : Hid (But g w3 wx) := But.trans (by repeat first | exact But.refl _ _ | refine But.drew1 ?_) hbx; have DX : Hid (DrawOk B g wx) := hdx; have QX : Hid (Box3 wx q (.slice (some ⟨gw, off, none⟩) W.length xc) (.int .i64 t) (.slice za n zc) 28) := Q3.out.win BX.out.win HGC.out; obtain ⟨j, rfl⟩ := Int.eq_ofNat_of_zero_le z1; have hj : j < W.length := (by omega); have hj0 : (0 : Int) ≤ (j : Int) := (by omega); have hj1 : (j : Int) < (W.length : Int) := (by omega); clear hbx hdx)
          | (go_at_call_of 42 (Value.int .i64 9); refine (below_small (B := B) (g := g) (by repeat first | exact DX.out | refine DrawOk.drew1 ?_) 9 (by decide) (by decide)).mono ?_; rintro r wy ⟨u, u1, u2, rfl, hby, hdy⟩; have BY : Hid (But g w3 wy) := But.trans (by repeat first | exact BX.out | refine But.drew1 ?_) hby; have SY : Hid (HqSt B g q w wy (some ⟨gw, off, none⟩) xc za zc W t n E) := S3.out.but BY.out hdy hg; have QY : Hid (Box3 wy q (.slice (some ⟨gw, off, none⟩) W.length xc) (.int .i64 t) (.slice za n zc) 28) := Q3.out.win BY.out.win HGC.out; (obtain ⟨gw2, off2, exb, _, sc, sf, hset⟩ := SY.out.word hg hj); (obtain ⟨e1, e2⟩ : gw = gw2 ∧ off = off2 := by cases exb; exact ⟨rfl, rfl⟩); subst e1; subst e2; have hwu : IntKind.i64.wrap (u - 2) = u - 2 := (by rw [IntKind.wrap_i64]; omega); have QZ : Hid (Box3 (wy.setCell ⟨gw, off + j, none⟩ (.int .i64 (u - 2))) q (.slice (some ⟨gw, off, none⟩) W.length xc) (.int .i64 t) (.slice za n zc) 28) := boxLen (hset (u - 2)).1; clear exb hby hdy))
      all_goals
        have T5 : Hid (HqEnd B g q w (wy.setCell ⟨gw, off + j, none⟩ (.int .i64 (u - 2))) (some ⟨gw, off, none⟩) xc za zc (W.set j (u - 2)) t n E) := hset _
        have V5 : Hid (HpV (W.set j (u - 2)) t n E) := ⟨V3.out.1, by simp; exact V3.out.2.1, V3.out.2.2⟩
        obtain ⟨W5, hW5⟩ : ∃ W5, W5 = W.set j (u - 2) := ⟨_, rfl⟩
        rw [← hW5] at T5 V5
        have hl5 : W5.length = W.length := by rw [hW5]; simp
        clear hW5 S3 D3 Q3 QX QY QZ SY DX x0 x1 sc sf hset
        generalize wy.setCell ⟨gw, off + j, none⟩ (.int .i64 (u - 2)) = wf at *
        obtain ⟨bx, hx, hr, hlt, hb, hd⟩ := T5.out
        rw [hl5] at bx hx
        clear hl5 T5
        have HXF : Hid (HX (w.heap.size + 1) wf.heap.size wf (.agg #[.slice (some ⟨gw, off, none⟩) W.length xc, .int .i64 t, .slice za n zc]) W5 t n E) := hx
        have HRF : Hid (Box3 wf w.heap.size (.slice none 0 0) (.int .i64 0) (.slice none 0 0) 28) := hr
        have HBF : Hid (But g w wf) := hb
        have HDF : Hid (DrawOk B g wf) := hd
        have x0 := bx.c0
        have x1 := bx.c1
        have x2 := bx.c2
        have r0 := hr.c0
        have r1 := hr.c1
        have r2 := hr.c2
        have f0 := hr.free 0
        have f1 := hr.free 1
        have f2 := hr.free 2
        clear bx hx hr hb hd
        go_wp2
        clear r0 r1 r2 f0 f1 f2
        have YZ : Box3 (((wf.setCell ⟨w.heap.size, 0, none⟩ (.slice (some ⟨gw, off, none⟩) W.length xc)).setCell ⟨w.heap.size, 1, none⟩ (.int .i64 t)).setCell ⟨w.heap.size, 2, none⟩ (.slice za n zc)) w.heap.size (.slice (some ⟨gw, off, none⟩) W.length xc) (.int .i64 t) (.slice za n zc) 28 := ((HRF.out.set0 _).set1 _).set2 _
        have hw := win3 wf w.heap.size (.slice (some ⟨gw, off, none⟩) W.length xc) (.int .i64 t) (.slice za n zc)
        have hs := size3 wf w.heap.size (.slice (some ⟨gw, off, none⟩) W.length xc) (.int .i64 t) (.slice za n zc)
        have ZZ : HX (w.heap.size + 1) (((wf.setCell ⟨w.heap.size, 0, none⟩ (.slice (some ⟨gw, off, none⟩) W.length xc)).setCell ⟨w.heap.size, 1, none⟩ (.int .i64 t)).setCell ⟨w.heap.size, 2, none⟩ (.slice za n zc)).heap.size (((wf.setCell ⟨w.heap.size, 0, none⟩ (.slice (some ⟨gw, off, none⟩) W.length xc)).setCell ⟨w.heap.size, 1, none⟩ (.int .i64 t)).setCell ⟨w.heap.size, 2, none⟩ (.slice za n zc)) (.agg #[.slice (some ⟨gw, off, none⟩) W.length xc, .int .i64 t, .slice za n zc]) W5 t n E := (HXF.out.win hw (.inr (Nat.le_refl _))).mono (Nat.le_refl _) (by omega)
        have BZ : But g w (((wf.setCell ⟨w.heap.size, 0, none⟩ (.slice (some ⟨gw, off, none⟩) W.length xc)).setCell ⟨w.heap.size, 1, none⟩ (.int .i64 t)).setCell ⟨w.heap.size, 2, none⟩ (.slice za n zc)) := butSet (butSet (butSet HBF.out (Nat.le_refl _) _ _) (Nat.le_refl _) _ _) (Nat.le_refl _) _ _
        have DZ : DrawOk B g (((wf.setCell ⟨w.heap.size, 0, none⟩ (.slice (some ⟨gw, off, none⟩) W.length xc)).setCell ⟨w.heap.size, 1, none⟩ (.int .i64 t)).setCell ⟨w.heap.size, 2, none⟩ (.slice za n zc)) := drawSet (drawSet (drawSet HDF.out hg _ _) hg _ _) hg _ _
        generalize (((wf.setCell ⟨w.heap.size, 0, none⟩ (.slice (some ⟨gw, off, none⟩) W.length xc)).setCell ⟨w.heap.size, 1, none⟩ (.int .i64 t)).setCell ⟨w.heap.size, 2, none⟩ (.slice za n zc)) = wz at *
        have v0 := YZ.c0
        have v1 := YZ.c1
        have v2 := YZ.c2
        refine bodyPost_ret (v := .agg #[.slice (some ⟨gw, off, none⟩) W.length xc, .int .i64 t, .slice za n zc]) (by simp [results, Try.results51, go_sem, v0, v1, v2]) rfl ?_
        exact ⟨_, W5, t, n, E, rfl, ZZ, V5.out, BZ, DZ⟩
    · have T5 : Hid (HqEnd B g q w w3 xa xc za zc W t n E) := S3.out.fin
      clear S3 x1
      obtain ⟨bx, hx, hr, hlt, hb, hd⟩ := T5.out
      have HXF : Hid (HX (w.heap.size + 1) w3.heap.size w3 (.agg #[.slice xa (W).length xc, .int .i64 t, .slice za n zc]) W t n E) := hx
      have HRF : Hid (Box3 w3 w.heap.size (.slice none 0 0) (.int .i64 0) (.slice none 0 0) 28) := hr
      have HBF : Hid (But g w w3) := hb
      have HDF : Hid (DrawOk B g w3) := hd
      have x0 := bx.c0
      have x1 := bx.c1
      have x2 := bx.c2
      have r0 := hr.c0
      have r1 := hr.c1
      have r2 := hr.c2
      have f0 := hr.free 0
      have f1 := hr.free 1
      have f2 := hr.free 2
      clear bx hx hr hb hd
      go_wp2
      clear r0 r1 r2 f0 f1 f2
      have YZ : Box3 (((w3.setCell ⟨w.heap.size, 0, none⟩ (.slice xa (W).length xc)).setCell ⟨w.heap.size, 1, none⟩ (.int .i64 t)).setCell ⟨w.heap.size, 2, none⟩ (.slice za n zc)) w.heap.size (.slice xa (W).length xc) (.int .i64 t) (.slice za n zc) 28 := ((HRF.out.set0 _).set1 _).set2 _
      have hw := win3 w3 w.heap.size (.slice xa (W).length xc) (.int .i64 t) (.slice za n zc)
      have hs := size3 w3 w.heap.size (.slice xa (W).length xc) (.int .i64 t) (.slice za n zc)
      have ZZ : HX (w.heap.size + 1) (((w3.setCell ⟨w.heap.size, 0, none⟩ (.slice xa (W).length xc)).setCell ⟨w.heap.size, 1, none⟩ (.int .i64 t)).setCell ⟨w.heap.size, 2, none⟩ (.slice za n zc)).heap.size (((w3.setCell ⟨w.heap.size, 0, none⟩ (.slice xa (W).length xc)).setCell ⟨w.heap.size, 1, none⟩ (.int .i64 t)).setCell ⟨w.heap.size, 2, none⟩ (.slice za n zc)) (.agg #[.slice xa (W).length xc, .int .i64 t, .slice za n zc]) W t n E := (HXF.out.win hw (.inr (Nat.le_refl _))).mono (Nat.le_refl _) (by omega)
      have BZ : But g w (((w3.setCell ⟨w.heap.size, 0, none⟩ (.slice xa (W).length xc)).setCell ⟨w.heap.size, 1, none⟩ (.int .i64 t)).setCell ⟨w.heap.size, 2, none⟩ (.slice za n zc)) := butSet (butSet (butSet HBF.out (Nat.le_refl _) _ _) (Nat.le_refl _) _ _) (Nat.le_refl _) _ _
      have DZ : DrawOk B g (((w3.setCell ⟨w.heap.size, 0, none⟩ (.slice xa (W).length xc)).setCell ⟨w.heap.size, 1, none⟩ (.int .i64 t)).setCell ⟨w.heap.size, 2, none⟩ (.slice za n zc)) := drawSet (drawSet (drawSet HDF.out hg _ _) hg _ _) hg _ _
      generalize (((w3.setCell ⟨w.heap.size, 0, none⟩ (.slice xa (W).length xc)).setCell ⟨w.heap.size, 1, none⟩ (.int .i64 t)).setCell ⟨w.heap.size, 2, none⟩ (.slice za n zc)) = wz at *
      have v0 := YZ.c0
      have v1 := YZ.c1
      have v2 := YZ.c2
      refine bodyPost_ret (v := .agg #[.slice xa (W).length xc, .int .i64 t, .slice za n zc]) (by simp [results, Try.results51, go_sem, v0, v1, v2]) rfl ?_
      exact ⟨_, W, t, n, E, rfl, ZZ, V3.out, BZ, DZ⟩
  by_cases m3 : y = 3
  · subst m3
    go_wp2_with fail
    refine (below_small S3.out.2.2.2 2 (by decide) (by decide)).mono ?_
    rintro e w4 ⟨z, z1, z2, rfl, hb, hd⟩
    have S4 : Hid (HqSt B g q w w4 xa xc za zc W t n E) := S3.out.but hb hd hg
    clear hb hd S3
    by_cases k0 : z = 0
    · subst k0
      obtain ⟨w5, r5, t5, s5, b5⟩ := make_cells 200 (by omega) w4
      have R5 : (Instr.makeSlice 26 (.int .i64 200) (.int .i64 200)).run Try.prog w4 = .ok (.slice (some ⟨w4.heap.size, 0, none⟩) 200 200) w5 := r5
      have T5 : Hid (HqEnd B g q w (w5.setCell ⟨q, 2, none⟩ (.slice (some ⟨w4.heap.size, 0, none⟩) 200 200)) xa xc (some ⟨w4.heap.size, 0, none⟩) 200 W t 200 (fun _ => cel0)) := S4.out.made hg b5 ⟨_, _, rfl, Nat.le_refl _, .inr ⟨_, rfl, Nat.le_refl _, t5.lt, t5⟩⟩
      have V5 : Hid (HpV W t 200 (fun _ => cel0)) := ⟨⟨fun i => by unfold in64; simp [cel0], by unfold in64; omega⟩, hWl, by omega⟩
      have c2 := (S4.out.1.box.keep b5).c2
      have f2 := (S4.out.1.box.keep b5).free 2
      clear S4 r5 t5 s5 b5
      go_upto_region 12 with fail
      clear c2 f2 R5
      generalize w5.setCell ⟨q, 2, none⟩ (.slice (some ⟨w4.heap.size, 0, none⟩) 200 200) = wf at *
      obtain ⟨bx, hx, hr, hlt, hb, hd⟩ := T5.out
      have HXF : Hid (HX (w.heap.size + 1) wf.heap.size wf (.agg #[.slice xa (W).length xc, .int .i64 t, .slice (some ⟨w4.heap.size, 0, none⟩) 200 200]) W t 200 ((fun _ => cel0))) := hx
      have HRF : Hid (Box3 wf w.heap.size (.slice none 0 0) (.int .i64 0) (.slice none 0 0) 28) := hr
      have HBF : Hid (But g w wf) := hb
      have HDF : Hid (DrawOk B g wf) := hd
      have x0 := bx.c0
      have x1 := bx.c1
      have x2 := bx.c2
      have r0 := hr.c0
      have r1 := hr.c1
      have r2 := hr.c2
      have f0 := hr.free 0
      have f1 := hr.free 1
      have f2 := hr.free 2
      clear bx hx hr hb hd
      go_wp2
      clear r0 r1 r2 f0 f1 f2
      have YZ : Box3 (((wf.setCell ⟨w.heap.size, 0, none⟩ (.slice xa (W).length xc)).setCell ⟨w.heap.size, 1, none⟩ (.int .i64 t)).setCell ⟨w.heap.size, 2, none⟩ (.slice (some ⟨w4.heap.size, 0, none⟩) 200 200)) w.heap.size (.slice xa (W).length xc) (.int .i64 t) (.slice (some ⟨w4.heap.size, 0, none⟩) 200 200) 28 := ((HRF.out.set0 _).set1 _).set2 _
      have hw := win3 wf w.heap.size (.slice xa (W).length xc) (.int .i64 t) (.slice (some ⟨w4.heap.size, 0, none⟩) 200 200)
      have hs := size3 wf w.heap.size (.slice xa (W).length xc) (.int .i64 t) (.slice (some ⟨w4.heap.size, 0, none⟩) 200 200)
      have ZZ : HX (w.heap.size + 1) (((wf.setCell ⟨w.heap.size, 0, none⟩ (.slice xa (W).length xc)).setCell ⟨w.heap.size, 1, none⟩ (.int .i64 t)).setCell ⟨w.heap.size, 2, none⟩ (.slice (some ⟨w4.heap.size, 0, none⟩) 200 200)).heap.size (((wf.setCell ⟨w.heap.size, 0, none⟩ (.slice xa (W).length xc)).setCell ⟨w.heap.size, 1, none⟩ (.int .i64 t)).setCell ⟨w.heap.size, 2, none⟩ (.slice (some ⟨w4.heap.size, 0, none⟩) 200 200)) (.agg #[.slice xa (W).length xc, .int .i64 t, .slice (some ⟨w4.heap.size, 0, none⟩) 200 200]) W t 200 ((fun _ => cel0)) := (HXF.out.win hw (.inr (Nat.le_refl _))).mono (Nat.le_refl _) (by omega)
      have BZ : But g w (((wf.setCell ⟨w.heap.size, 0, none⟩ (.slice xa (W).length xc)).setCell ⟨w.heap.size, 1, none⟩ (.int .i64 t)).setCell ⟨w.heap.size, 2, none⟩ (.slice (some ⟨w4.heap.size, 0, none⟩) 200 200)) := butSet (butSet (butSet HBF.out (Nat.le_refl _) _ _) (Nat.le_refl _) _ _) (Nat.le_refl _) _ _
      have DZ : DrawOk B g (((wf.setCell ⟨w.heap.size, 0, none⟩ (.slice xa (W).length xc)).setCell ⟨w.heap.size, 1, none⟩ (.int .i64 t)).setCell ⟨w.heap.size, 2, none⟩ (.slice (some ⟨w4.heap.size, 0, none⟩) 200 200)) := drawSet (drawSet (drawSet HDF.out hg _ _) hg _ _) hg _ _
      generalize (((wf.setCell ⟨w.heap.size, 0, none⟩ (.slice xa (W).length xc)).setCell ⟨w.heap.size, 1, none⟩ (.int .i64 t)).setCell ⟨w.heap.size, 2, none⟩ (.slice (some ⟨w4.heap.size, 0, none⟩) 200 200)) = wz at *
      have v0 := YZ.c0
      have v1 := YZ.c1
      have v2 := YZ.c2
      refine bodyPost_ret (v := .agg #[.slice xa (W).length xc, .int .i64 t, .slice (some ⟨w4.heap.size, 0, none⟩) 200 200]) (by simp [results, Try.results51, go_sem, v0, v1, v2]) rfl ?_
      exact ⟨_, W, t, 200, ((fun _ => cel0)), rfl, ZZ, V5.out, BZ, DZ⟩
    · obtain rfl : z = 1 := by omega
      obtain ⟨w5, r5, t5, s5, b5⟩ := make_cells 201 (by omega) w4
      have R5 : (Instr.makeSlice 26 (.int .i64 201) (.int .i64 201)).run Try.prog w4 = .ok (.slice (some ⟨w4.heap.size, 0, none⟩) 201 201) w5 := r5
      have T5 : Hid (HqEnd B g q w (w5.setCell ⟨q, 2, none⟩ (.slice (some ⟨w4.heap.size, 0, none⟩) 201 201)) xa xc (some ⟨w4.heap.size, 0, none⟩) 201 W t 201 (fun _ => cel0)) := S4.out.made hg b5 ⟨_, _, rfl, Nat.le_refl _, .inr ⟨_, rfl, Nat.le_refl _, t5.lt, t5⟩⟩
      have V5 : Hid (HpV W t 201 (fun _ => cel0)) := ⟨⟨fun i => by unfold in64; simp [cel0], by unfold in64; omega⟩, hWl, by omega⟩
      have c2 := (S4.out.1.box.keep b5).c2
      have f2 := (S4.out.1.box.keep b5).free 2
      clear S4 r5 t5 s5 b5
      go_upto_region 12 with fail
      clear c2 f2 R5
      generalize w5.setCell ⟨q, 2, none⟩ (.slice (some ⟨w4.heap.size, 0, none⟩) 201 201) = wf at *
      obtain ⟨bx, hx, hr, hlt, hb, hd⟩ := T5.out
      have HXF : Hid (HX (w.heap.size + 1) wf.heap.size wf (.agg #[.slice xa (W).length xc, .int .i64 t, .slice (some ⟨w4.heap.size, 0, none⟩) 201 201]) W t 201 ((fun _ => cel0))) := hx
      have HRF : Hid (Box3 wf w.heap.size (.slice none 0 0) (.int .i64 0) (.slice none 0 0) 28) := hr
      have HBF : Hid (But g w wf) := hb
      have HDF : Hid (DrawOk B g wf) := hd
      have x0 := bx.c0
      have x1 := bx.c1
      have x2 := bx.c2
      have r0 := hr.c0
      have r1 := hr.c1
      have r2 := hr.c2
      have f0 := hr.free 0
      have f1 := hr.free 1
      have f2 := hr.free 2
      clear bx hx hr hb hd
      go_wp2
      clear r0 r1 r2 f0 f1 f2
      have YZ : Box3 (((wf.setCell ⟨w.heap.size, 0, none⟩ (.slice xa (W).length xc)).setCell ⟨w.heap.size, 1, none⟩ (.int .i64 t)).setCell ⟨w.heap.size, 2, none⟩ (.slice (some ⟨w4.heap.size, 0, none⟩) 201 201)) w.heap.size (.slice xa (W).length xc) (.int .i64 t) (.slice (some ⟨w4.heap.size, 0, none⟩) 201 201) 28 := ((HRF.out.set0 _).set1 _).set2 _
      have hw := win3 wf w.heap.size (.slice xa (W).length xc) (.int .i64 t) (.slice (some ⟨w4.heap.size, 0, none⟩) 201 201)
      have hs := size3 wf w.heap.size (.slice xa (W).length xc) (.int .i64 t) (.slice (some ⟨w4.heap.size, 0, none⟩) 201 201)
      have ZZ : HX (w.heap.size + 1) (((wf.setCell ⟨w.heap.size, 0, none⟩ (.slice xa (W).length xc)).setCell ⟨w.heap.size, 1, none⟩ (.int .i64 t)).setCell ⟨w.heap.size, 2, none⟩ (.slice (some ⟨w4.heap.size, 0, none⟩) 201 201)).heap.size (((wf.setCell ⟨w.heap.size, 0, none⟩ (.slice xa (W).length xc)).setCell ⟨w.heap.size, 1, none⟩ (.int .i64 t)).setCell ⟨w.heap.size, 2, none⟩ (.slice (some ⟨w4.heap.size, 0, none⟩) 201 201)) (.agg #[.slice xa (W).length xc, .int .i64 t, .slice (some ⟨w4.heap.size, 0, none⟩) 201 201]) W t 201 ((fun _ => cel0)) := (HXF.out.win hw (.inr (Nat.le_refl _))).mono (Nat.le_refl _) (by omega)
      have BZ : But g w (((wf.setCell ⟨w.heap.size, 0, none⟩ (.slice xa (W).length xc)).setCell ⟨w.heap.size, 1, none⟩ (.int .i64 t)).setCell ⟨w.heap.size, 2, none⟩ (.slice (some ⟨w4.heap.size, 0, none⟩) 201 201)) := butSet (butSet (butSet HBF.out (Nat.le_refl _) _ _) (Nat.le_refl _) _ _) (Nat.le_refl _) _ _
      have DZ : DrawOk B g (((wf.setCell ⟨w.heap.size, 0, none⟩ (.slice xa (W).length xc)).setCell ⟨w.heap.size, 1, none⟩ (.int .i64 t)).setCell ⟨w.heap.size, 2, none⟩ (.slice (some ⟨w4.heap.size, 0, none⟩) 201 201)) := drawSet (drawSet (drawSet HDF.out hg _ _) hg _ _) hg _ _
      generalize (((wf.setCell ⟨w.heap.size, 0, none⟩ (.slice xa (W).length xc)).setCell ⟨w.heap.size, 1, none⟩ (.int .i64 t)).setCell ⟨w.heap.size, 2, none⟩ (.slice (some ⟨w4.heap.size, 0, none⟩) 201 201)) = wz at *
      have v0 := YZ.c0
      have v1 := YZ.c1
      have v2 := YZ.c2
      refine bodyPost_ret (v := .agg #[.slice xa (W).length xc, .int .i64 t, .slice (some ⟨w4.heap.size, 0, none⟩) 201 201]) (by simp [results, Try.results51, go_sem, v0, v1, v2]) rfl ?_
      exact ⟨_, W, t, 201, ((fun _ => cel0)), rfl, ZZ, V5.out, BZ, DZ⟩
  have m0b : (y == 0) = false := by simp [m0]
  have m1b : (y == 1) = false := by simp [m1]
  have m2b : (y == 2) = false := by simp [m2]
  have m3b : (y == 3) = false := by simp [m3]
  have V3 : Hid (HpV W t n E) := ⟨right_in HK.out.1 HK.out.2, hWl, by omega⟩
  have T5 : Hid (HqEnd B g q w w3 xa xc za zc W t n E) := S3.out.fin
  clear S3
  obtain ⟨bx, hx, hr, hlt, hb, hd⟩ := T5.out
  have HXF : Hid (HX (w.heap.size + 1) w3.heap.size w3 (.agg #[.slice xa (W).length xc, .int .i64 t, .slice za n zc]) W t n E) := hx
  have HRF : Hid (Box3 w3 w.heap.size (.slice none 0 0) (.int .i64 0) (.slice none 0 0) 28) := hr
  have HBF : Hid (But g w w3) := hb
  have HDF : Hid (DrawOk B g w3) := hd
  have x0 := bx.c0
  have x1 := bx.c1
  have x2 := bx.c2
  have r0 := hr.c0
  have r1 := hr.c1
  have r2 := hr.c2
  have f0 := hr.free 0
  have f1 := hr.free 1
  have f2 := hr.free 2
  clear bx hx hr hb hd
  go_wp2
  clear r0 r1 r2 f0 f1 f2
  have YZ : Box3 (((w3.setCell ⟨w.heap.size, 0, none⟩ (.slice xa (W).length xc)).setCell ⟨w.heap.size, 1, none⟩ (.int .i64 t)).setCell ⟨w.heap.size, 2, none⟩ (.slice za n zc)) w.heap.size (.slice xa (W).length xc) (.int .i64 t) (.slice za n zc) 28 := ((HRF.out.set0 _).set1 _).set2 _
  have hw := win3 w3 w.heap.size (.slice xa (W).length xc) (.int .i64 t) (.slice za n zc)
  have hs := size3 w3 w.heap.size (.slice xa (W).length xc) (.int .i64 t) (.slice za n zc)
  have ZZ : HX (w.heap.size + 1) (((w3.setCell ⟨w.heap.size, 0, none⟩ (.slice xa (W).length xc)).setCell ⟨w.heap.size, 1, none⟩ (.int .i64 t)).setCell ⟨w.heap.size, 2, none⟩ (.slice za n zc)).heap.size (((w3.setCell ⟨w.heap.size, 0, none⟩ (.slice xa (W).length xc)).setCell ⟨w.heap.size, 1, none⟩ (.int .i64 t)).setCell ⟨w.heap.size, 2, none⟩ (.slice za n zc)) (.agg #[.slice xa (W).length xc, .int .i64 t, .slice za n zc]) W t n E := (HXF.out.win hw (.inr (Nat.le_refl _))).mono (Nat.le_refl _) (by omega)
  have BZ : But g w (((w3.setCell ⟨w.heap.size, 0, none⟩ (.slice xa (W).length xc)).setCell ⟨w.heap.size, 1, none⟩ (.int .i64 t)).setCell ⟨w.heap.size, 2, none⟩ (.slice za n zc)) := butSet (butSet (butSet HBF.out (Nat.le_refl _) _ _) (Nat.le_refl _) _ _) (Nat.le_refl _) _ _
  have DZ : DrawOk B g (((w3.setCell ⟨w.heap.size, 0, none⟩ (.slice xa (W).length xc)).setCell ⟨w.heap.size, 1, none⟩ (.int .i64 t)).setCell ⟨w.heap.size, 2, none⟩ (.slice za n zc)) := drawSet (drawSet (drawSet HDF.out hg _ _) hg _ _) hg _ _
  generalize (((w3.setCell ⟨w.heap.size, 0, none⟩ (.slice xa (W).length xc)).setCell ⟨w.heap.size, 1, none⟩ (.int .i64 t)).setCell ⟨w.heap.size, 2, none⟩ (.slice za n zc)) = wz at *
  have v0 := YZ.c0
  have v1 := YZ.c1
  have v2 := YZ.c2
  refine bodyPost_ret (v := .agg #[.slice xa (W).length xc, .int .i64 t, .slice za n zc]) (by simp [results, Try.results51, go_sem, v0, v1, v2]) rfl ?_
  exact ⟨_, W, t, n, E, rfl, ZZ, V3.out, BZ, DZ⟩
set_option maxRecDepth 20000 in
set_option maxHeartbeats 4000000 in
/-- DrawHeapPack. -/
theorem drawHeap_spec {w : World} {a : Option Addr} {len cap : Nat} (hs : Src w.heap.size w a len) (hb20 : len ≤ 1048576) :
    Calls Try.prog 27 #[.slice a len cap] w fun e w' => ∃ v W t n E, e = .returned v ∧ HI w' v W t n E ∧ HpV W t n E ∧ Below w.heap.size w w' := by
  have HS : Hid (Src w.heap.size w a len) := hs
  clear hs
  go_enter Try.func27, Try.ntmps27
  go_upto_region 1 with fail
  generalize hW : w.alloc ZH = wa
  have BA : Hid (Below w.heap.size w wa) := by rw [← hW]; exact bAlloc (Below.refl _ _) _
  have RA : Hid (Box3 wa w.heap.size (.slice none 0 0) (.int .i64 0) (.slice none 0 0) 28) := by rw [← hW]; exact box3_new w _ _ _ _
  clear hW
  go_wp2_with fail
  refine (new_spec (srcKeep HS.out BA.out) hb20).mono ?_
  rintro e w1 ⟨g, rfl, hb, hd⟩
  have B1 : Hid (Below w.heap.size w w1) := bTrans BA.out hb
  have D1 : Hid (DrawOk wa.heap.size g w1) := hd
  have R1 : Hid (Box3 w1 w.heap.size (.slice none 0 0) (.int .i64 0) (.slice none 0 0) 28) := RA.out.keep hb
  have GL : Hid (w.heap.size < g) := Nat.lt_of_lt_of_le RA.out.lt hd.1
  clear hb hd BA RA
  go_wp2_with fail
  refine (heapAny_draw D1.out).mono ?_
  rintro e w2 ⟨v, W, t, n, E, rfl, hx, hv, hb, hd⟩
  obtain ⟨xa, xc, za, zc, rfl⟩ := hx.form
  have B2 : Hid (Below w.heap.size w w2) := B1.out.trans (hb.below (Nat.le_of_lt GL.out) B1.out.size)
  have R2 : Hid (Box3 w2 w.heap.size (.slice none 0 0) (.int .i64 0) (.slice none 0 0) 28) := R1.out.win hb.win (.inl GL.out)
  have X2 : Hid (HX (w1.heap.size + 1) w2.heap.size w2 (.agg #[.slice xa W.length xc, .int .i64 t, .slice za n zc]) W t n E) := hx
  have V2 : Hid (HpV W t n E) := hv
  have L2 : Hid (w.heap.size < w1.heap.size) := R1.out.lt
  clear hb hd hx hv
  have r0 := R2.out.c0
  have r1 := R2.out.c1
  have r2 := R2.out.c2
  have f0 := R2.out.free 0
  have f1 := R2.out.free 1
  have f2 := R2.out.free 2
  go_wp2
  clear r0 r1 r2 f0 f1 f2
  have YZ : Box3 (((w2.setCell ⟨w.heap.size, 0, none⟩ (.slice xa W.length xc)).setCell ⟨w.heap.size, 1, none⟩ (.int .i64 t)).setCell ⟨w.heap.size, 2, none⟩ (.slice za n zc)) w.heap.size (.slice xa W.length xc) (.int .i64 t) (.slice za n zc) 28 := ((R2.out.set0 _).set1 _).set2 _
  have ZZ : HI (((w2.setCell ⟨w.heap.size, 0, none⟩ (.slice xa W.length xc)).setCell ⟨w.heap.size, 1, none⟩ (.int .i64 t)).setCell ⟨w.heap.size, 2, none⟩ (.slice za n zc)) (.agg #[.slice xa W.length xc, .int .i64 t, .slice za n zc]) W t n E := (X2.out.win (win3 w2 w.heap.size _ _ _) (.inr (by have := L2.out; omega))).hi
  have BZ : Below w.heap.size w (((w2.setCell ⟨w.heap.size, 0, none⟩ (.slice xa W.length xc)).setCell ⟨w.heap.size, 1, none⟩ (.int .i64 t)).setCell ⟨w.heap.size, 2, none⟩ (.slice za n zc)) := below_setCell (below_setCell (below_setCell B2.out (Nat.le_refl _) _ _) (Nat.le_refl _) _ _) (Nat.le_refl _) _ _
  generalize ((w2.setCell ⟨w.heap.size, 0, none⟩ (.slice xa W.length xc)).setCell ⟨w.heap.size, 1, none⟩ (.int .i64 t)).setCell ⟨w.heap.size, 2, none⟩ (.slice za n zc) = wz at *
  have v0 := YZ.c0
  have v1 := YZ.c1
  have v2 := YZ.c2
  refine bodyPost_ret (v := .agg #[.slice xa W.length xc, .int .i64 t, .slice za n zc]) (by simp [results, Try.results27, go_sem, v0, v1, v2]) rfl ?_
  exact ⟨_, W, t, n, E, rfl, ZZ, V2.out, BZ⟩
end Go.Proofs.Ytmmjidhpmbcoiaa
namespace Go.Proofs.Ytmmjidhpmbcoiaa
open Go.RowKit
set_option linter.unusedVariables false
set_option linter.unusedSimpArgs false
theorem Box3.drew1 {w : World} {g : Nat} {x y z : Value} {ty : TypeId} (h : Box3 w g x y z ty) : Box3 w.drew g x y z ty := h
theorem boxWin3 {w w' : World} {q g : Nat} {x y : Value} {t : TypeId} (h : Box w q x y t) (hw : Win g (g + 1) w w') (hq : q < g ∨ g + 1 ≤ q) : Box w' q x y t := by
  have hl := h.lt
  unfold Box at *
  rw [hw.block q hl hq]; exact h
theorem Arr.form {B C : Nat} {w : World} {v : Value} {s d : List Int} (h : Arr B C w v s d) : ∃ a c b e, v = .agg #[.slice a s.length c, .slice b d.length e] := by
  obtain ⟨a, c, b, e, q, _⟩ := h.arrI
  exact ⟨a, c, b, e, q⟩
set_option maxRecDepth 20000 in
set_option maxHeartbeats 4000000 in
/-- DrawHeapPut. -/
theorem drawPut_spec {w : World} {a : Option Addr} {len cap : Nat} (hs : Src w.heap.size w a len) (hb20 : len ≤ 1048576) :
    Calls Try.prog 17 #[.slice a len cap] w fun e w' => ∃ v u W t n E s d, e = .returned (.tuple #[v, u]) ∧ HI w' v W t n E ∧ HpV W t n E ∧ ArrI w' u s d ∧ s.length ≤ 4 ∧ d.length ≤ 301 ∧ Below w.heap.size w w' := by
  have HS : Hid (Src w.heap.size w a len) := hs
  clear hs
  go_enter Try.func17, Try.ntmps17
  go_upto_region 1 with fail
  generalize hW : (w.alloc ZH).alloc (.cells #[.slice none 0 0, .slice none 0 0] 32) = wa
  have BA : Hid (Below w.heap.size w wa) := by rw [← hW]; exact bAlloc (bAlloc (Below.refl _ _) _) _
  have RA : Hid (Box3 wa w.heap.size (.slice none 0 0) (.int .i64 0) (.slice none 0 0) 28) := by rw [← hW]; exact (box3_new w _ _ _ _).alloc _
  have AA : Hid (Box wa (w.heap.size + 1) (.slice none 0 0) (.slice none 0 0) 32) := by
    have := box_new (w.alloc ZH) (.slice none 0 0) (.slice none 0 0) 32
    show Box _ _ _ _ _
    rw [← hW]; simpa using this
  clear hW
  go_wp2_with fail
  refine (new_spec (srcKeep HS.out BA.out) hb20).mono ?_
  rintro e w1 ⟨g, rfl, hb, hd⟩
  have B1 : Hid (Below w.heap.size w w1) := bTrans BA.out hb
  have D1 : Hid (DrawOk wa.heap.size g w1) := hd
  have R1 : Hid (Box3 w1 w.heap.size (.slice none 0 0) (.int .i64 0) (.slice none 0 0) 28) := RA.out.keep hb
  have A1 : Hid (Box w1 (w.heap.size + 1) (.slice none 0 0) (.slice none 0 0) 32) := AA.out.keep hb
  have GL : Hid (w.heap.size + 1 < g) := Nat.lt_of_lt_of_le AA.out.lt hd.1
  clear hb hd BA RA AA
  go_wp2_with fail
  refine (heapAny_draw D1.out).mono ?_
  rintro e w2 ⟨v, W, t, n, E, rfl, hx, hv, hb, hd⟩
  obtain ⟨xa, xc, za, zc, rfl⟩ := hx.form
  have B2 : Hid (Below w.heap.size w w2) := B1.out.trans (hb.below (by have := GL.out; omega) B1.out.size)
  have R2 : Hid (Box3 w2 w.heap.size (.slice none 0 0) (.int .i64 0) (.slice none 0 0) 28) := R1.out.win hb.win (.inl (by have := GL.out; omega))
  have A2 : Hid (Box w2 (w.heap.size + 1) (.slice none 0 0) (.slice none 0 0) 32) := boxBut A1.out hb (by have := GL.out; omega)
  have D2 : Hid (DrawOk wa.heap.size g w2) := hd
  have X2 : Hid (HX (w1.heap.size + 1) w2.heap.size w2 (.agg #[.slice xa W.length xc, .int .i64 t, .slice za n zc]) W t n E) := hx
  have V2 : Hid (HpV W t n E) := hv
  have L2 : Hid (w.heap.size + 1 < w1.heap.size ∧ w1.heap.size ≤ w2.heap.size ∧ g < w1.heap.size) := ⟨A1.out.lt, hb.size, D1.out.lt⟩
  clear hb hd hx hv
  go_wp2_with fail
  generalize hW : w2.alloc (.cells #[.slice xa W.length xc, .int .i64 t, .slice za n zc] 28) = w3
  have b3 : Below w2.heap.size w2 w3 := by rw [← hW]; exact bAlloc (Below.refl _ _) _
  have bx : Box3 w3 w2.heap.size (.slice xa W.length xc) (.int .i64 t) (.slice za n zc) 28 := by rw [← hW]; exact box3_new w2 _ _ _ _
  have H3 : Hid (Box3 w3 w2.heap.size (.slice xa W.length xc) (.int .i64 t) (.slice za n zc) 28) := bx
  have B3 : Hid (Below w.heap.size w w3) := bTrans B2.out b3
  have R3 : Hid (Box3 w3 w.heap.size (.slice none 0 0) (.int .i64 0) (.slice none 0 0) 28) := R2.out.keep b3
  have A3 : Hid (Box w3 (w.heap.size + 1) (.slice none 0 0) (.slice none 0 0) 32) := A2.out.keep b3
  have D3 : Hid (DrawOk wa.heap.size g w3) := D2.out.next b3
  have X3 : Hid (HX (w1.heap.size + 1) w2.heap.size w3 (.agg #[.slice xa W.length xc, .int .i64 t, .slice za n zc]) W t n E) := X2.out.keep b3
  have x0 := bx.c0
  have x1 := bx.c1
  have x2 := bx.c2
  have hg2 : w2.heap.size < g ∨ g + 1 ≤ w2.heap.size := .inr (by have := L2.out; omega)
  clear hW b3 bx B2 R2 A2 D2 X2 B1 R1 A1 D1
  go_region_held3 (fun w' => w'.cell? ⟨w2.heap.size, 0, none⟩ = some (.slice xa W.length xc) ∧ w'.cell? ⟨w2.heap.size, 1, none⟩ = some (.int .i64 t) ∧ w'.cell? ⟨w2.heap.size, 2, none⟩ = some (.slice za n zc))
    (first | with_reducible exact ⟨x0, x1, x2⟩ | (refine Box3.cells (ty := 28) ?_; (repeat first | with_reducible exact H3.out | with_reducible exact HX4.out | with_reducible refine Box3.other ?_ hq0 _ | with_reducible refine Box3.other ?_ hq1 _ | with_reducible refine Box3.drew1 ?_); done) | go_keep)
    ((go_at_call 52; refine (draw_draw (B := wa.heap.size) (g := g) (by repeat first | exact D3.out | refine DrawOk.drew1 ?_)).mono ?_; rintro r w4 ⟨u, s, d, rfl, ha, hsl, hdl, hb4, hd4⟩; (obtain ⟨sa, sc, da, dc, rfl⟩ := ha.form); have B4 : Hid (But g w3 w4) := But.trans (by repeat first | exact But.refl _ _ | refine But.drew1 ?_) hb4; have HX4 : Hid (Box3 w4 w2.heap.size (.slice xa W.length xc) (.int .i64 t) (.slice za n zc) 28) := H3.out.win B4.out.win hg2; have AR4 : Hid (Arr w3.heap.size w4.heap.size w4 (.agg #[.slice sa s.length sc, .slice da d.length dc]) s d) := ha; have hgl := GL.out; have hl2 := L2.out; have R4 : Hid (Box3 w4 w.heap.size (.slice none 0 0) (.int .i64 0) (.slice none 0 0) 28) := R3.out.win B4.out.win (.inl (by omega)); have A4 : Hid (Box w4 (w.heap.size + 1) (.slice none 0 0) (.slice none 0 0) 32) := boxBut A3.out B4.out (by omega); have hq0 : w2.heap.size ≠ w.heap.size := (by omega); have hq1 : w2.heap.size ≠ w.heap.size + 1 := (by omega); clear hgl hl2; have m0 := R4.out.c0; have m1 := R4.out.c1; have m2 := R4.out.c2; have f0 := R4.out.free 0; have f1 := R4.out.free 1; have f2 := R4.out.free 2; have k0 := A4.out.c0; have k1 := A4.out.c1; have j0 := free_at A4.out 0; have j1 := free_at A4.out 1; clear ha hb4 hd4))
  all_goals
    have hl2 := L2.out
    have hw := win3 w4 w.heap.size (.slice xa W.length xc) (.int .i64 t) (.slice za n zc)
    have YZ : Box3 (((((w4.setCell ⟨w.heap.size, 0, none⟩ (.slice xa W.length xc)).setCell ⟨w.heap.size, 1, none⟩ (.int .i64 t)).setCell ⟨w.heap.size, 2, none⟩ (.slice za n zc)).setCell ⟨w.heap.size + 1, 0, none⟩ (.slice sa s.length sc)).setCell ⟨w.heap.size + 1, 1, none⟩ (.slice da d.length dc)) w.heap.size (.slice xa W.length xc) (.int .i64 t) (.slice za n zc) 28 := ((((R4.out.set0 _).set1 _).set2 _).other (by omega) _).other (by omega) _
    have AZ : Box (((((w4.setCell ⟨w.heap.size, 0, none⟩ (.slice xa W.length xc)).setCell ⟨w.heap.size, 1, none⟩ (.int .i64 t)).setCell ⟨w.heap.size, 2, none⟩ (.slice za n zc)).setCell ⟨w.heap.size + 1, 0, none⟩ (.slice sa s.length sc)).setCell ⟨w.heap.size + 1, 1, none⟩ (.slice da d.length dc)) (w.heap.size + 1) (.slice sa s.length sc) (.slice da d.length dc) 32 := boxSet1 (boxSet0 (boxWin3 A4.out hw (by omega)) _) _
    have XZ : HI (((((w4.setCell ⟨w.heap.size, 0, none⟩ (.slice xa W.length xc)).setCell ⟨w.heap.size, 1, none⟩ (.int .i64 t)).setCell ⟨w.heap.size, 2, none⟩ (.slice za n zc)).setCell ⟨w.heap.size + 1, 0, none⟩ (.slice sa s.length sc)).setCell ⟨w.heap.size + 1, 1, none⟩ (.slice da d.length dc)) (.agg #[.slice xa W.length xc, .int .i64 t, .slice za n zc]) W t n E := (((((X3.out.win B4.out.win (.inr (by omega))).win hw (.inr (by omega))).win (win_setCell _ (w.heap.size + 1) 0 _) (.inr (by omega))).win (win_setCell _ (w.heap.size + 1) 1 _) (.inr (by omega)))).hi
    have AIZ : ArrI (((((w4.setCell ⟨w.heap.size, 0, none⟩ (.slice xa W.length xc)).setCell ⟨w.heap.size, 1, none⟩ (.int .i64 t)).setCell ⟨w.heap.size, 2, none⟩ (.slice za n zc)).setCell ⟨w.heap.size + 1, 0, none⟩ (.slice sa s.length sc)).setCell ⟨w.heap.size + 1, 1, none⟩ (.slice da d.length dc)) (.agg #[.slice sa s.length sc, .slice da d.length dc]) s d := (((AR4.out.win hw (.inr (by have := H3.out.lt; omega))).win (win_setCell _ (w.heap.size + 1) 0 _) (.inr (by have := H3.out.lt; omega))).win (win_setCell _ (w.heap.size + 1) 1 _) (.inr (by have := H3.out.lt; omega))).arrI
    have b4 : Below w.heap.size w w4 := B3.out.trans (B4.out.below (by have := GL.out; omega) B3.out.size)
    have BZ : Below w.heap.size w (((((w4.setCell ⟨w.heap.size, 0, none⟩ (.slice xa W.length xc)).setCell ⟨w.heap.size, 1, none⟩ (.int .i64 t)).setCell ⟨w.heap.size, 2, none⟩ (.slice za n zc)).setCell ⟨w.heap.size + 1, 0, none⟩ (.slice sa s.length sc)).setCell ⟨w.heap.size + 1, 1, none⟩ (.slice da d.length dc)) := below_setCell (below_setCell (below_setCell (below_setCell (below_setCell b4 (Nat.le_refl _) _ _) (Nat.le_refl _) _ _) (Nat.le_refl _) _ _) (by omega) _ _) (by omega) _ _
    clear m0 m1 m2 f0 f1 f2 k0 k1 j0 j1 x0 x1 x2
    generalize (((((w4.setCell ⟨w.heap.size, 0, none⟩ (.slice xa W.length xc)).setCell ⟨w.heap.size, 1, none⟩ (.int .i64 t)).setCell ⟨w.heap.size, 2, none⟩ (.slice za n zc)).setCell ⟨w.heap.size + 1, 0, none⟩ (.slice sa s.length sc)).setCell ⟨w.heap.size + 1, 1, none⟩ (.slice da d.length dc)) = wz at *
    have v0 := YZ.c0
    have v1 := YZ.c1
    have v2 := YZ.c2
    have u0 := AZ.c0
    have u1 := AZ.c1
    go_wp2
    refine bodyPost_ret (v := .tuple #[.agg #[.slice xa W.length xc, .int .i64 t, .slice za n zc], .agg #[.slice sa s.length sc, .slice da d.length dc]]) (by simp [results, Try.results17, go_sem, v0, v1, v2, u0, u1]) rfl ?_
    exact ⟨_, _, W, t, n, E, s, d, rfl, XZ, V2.out, AIZ, hsl, hdl, BZ⟩
set_option maxRecDepth 20000 in
set_option maxHeartbeats 4000000 in
/-- l13DrawAt. -/
theorem drawAt_spec {B g : Nat} {w : World} {v : Value} {W : List Int} {t : Int} {n : Nat} {E : Nat → Cel} (hd : DrawOk B g w) (h : HI w v W t n E) (hn : n ≤ 1048576) :
    Calls Try.prog 59 #[.pointer (some ⟨g, 0, none⟩), v] w fun e w' => ∃ x : Int, e = .returned (.int .i64 x) ∧ But g w w' ∧ DrawOk B g w' := by
  have HD : Hid (DrawOk B g w) := hd
  have hg := hd.lt
  obtain ⟨wa, wc, ca, cc, rfl, _, _, _, _⟩ := h
  clear hd
  go_enter Try.func59, Try.ntmps59
  have hn1 : (0 : Int) < (n : Int) + 1 := by omega
  go_wp2_with fail
  refine (below_any (HD.out.alloc _) _ hn1).mono ?_
  rintro e w1 ⟨x, x1, x2, rfl, hb, hd⟩
  have B1 : Hid (But g w w1) := ((But.refl g w).alloc _).trans hb
  have D1 : Hid (DrawOk B g w1) := hd
  clear hb hd HD
  go_wp2_with fail
  refine (below_small D1.out 20 (by decide) (by decide)).mono ?_
  rintro e w2 ⟨y, y1, y2, rfl, hb, hd⟩
  have B2 : Hid (But g w w2) := B1.out.trans hb
  have D2 : Hid (DrawOk B g w2) := hd
  clear hb hd B1 D1
  go_wp2
  go_ret
  exact ⟨_, rfl, B2.out, D2.out⟩
set_option maxRecDepth 20000 in
set_option maxHeartbeats 4000000 in
/-- DrawHeapDrop. -/
theorem drawDrop_spec {w : World} {a : Option Addr} {len cap : Nat} (hs : Src w.heap.size w a len) (hb20 : len ≤ 1048576) :
    Calls Try.prog 23 #[.slice a len cap] w fun e w' => ∃ v x W t n E, e = .returned (.tuple #[v, .int .i64 x]) ∧ HI w' v W t n E ∧ HpV W t n E ∧ Below w.heap.size w w' := by
  have HS : Hid (Src w.heap.size w a len) := hs
  clear hs
  go_enter Try.func23, Try.ntmps23
  go_upto_region 1 with fail
  generalize hW : w.alloc ZH = wa
  have BA : Hid (Below w.heap.size w wa) := by rw [← hW]; exact bAlloc (Below.refl _ _) _
  have RA : Hid (Box3 wa w.heap.size (.slice none 0 0) (.int .i64 0) (.slice none 0 0) 28) := by rw [← hW]; exact box3_new w _ _ _ _
  clear hW
  go_wp2_with fail
  refine (new_spec (srcKeep HS.out BA.out) hb20).mono ?_
  rintro e w1 ⟨g, rfl, hb, hd⟩
  have B1 : Hid (Below w.heap.size w w1) := bTrans BA.out hb
  have D1 : Hid (DrawOk wa.heap.size g w1) := hd
  have R1 : Hid (Box3 w1 w.heap.size (.slice none 0 0) (.int .i64 0) (.slice none 0 0) 28) := RA.out.keep hb
  have GL : Hid (w.heap.size < g) := Nat.lt_of_lt_of_le RA.out.lt hd.1
  clear hb hd BA RA
  go_wp2_with fail
  refine (heapAny_draw D1.out).mono ?_
  rintro e w2 ⟨v, W, t, n, E, rfl, hx, hv, hb, hd⟩
  obtain ⟨xa, xc, za, zc, rfl⟩ := hx.form
  have B2 : Hid (Below w.heap.size w w2) := B1.out.trans (hb.below (by have := GL.out; omega) B1.out.size)
  have R2 : Hid (Box3 w2 w.heap.size (.slice none 0 0) (.int .i64 0) (.slice none 0 0) 28) := R1.out.win hb.win (.inl (by have := GL.out; omega))
  have D2 : Hid (DrawOk wa.heap.size g w2) := hd
  have X2 : Hid (HX (w1.heap.size + 1) w2.heap.size w2 (.agg #[.slice xa W.length xc, .int .i64 t, .slice za n zc]) W t n E) := hx
  have V2 : Hid (HpV W t n E) := hv
  have L2 : Hid (w.heap.size < w1.heap.size ∧ w1.heap.size ≤ w2.heap.size ∧ g < w1.heap.size) := ⟨R1.out.lt, hb.size, D1.out.lt⟩
  clear hb hd hx hv
  go_wp2_with fail
  generalize hW : w2.alloc (.cells #[.slice xa W.length xc, .int .i64 t, .slice za n zc] 28) = w3
  have b3 : Below w2.heap.size w2 w3 := by rw [← hW]; exact bAlloc (Below.refl _ _) _
  have bx : Box3 w3 w2.heap.size (.slice xa W.length xc) (.int .i64 t) (.slice za n zc) 28 := by rw [← hW]; exact box3_new w2 _ _ _ _
  have H3 : Hid (Box3 w3 w2.heap.size (.slice xa W.length xc) (.int .i64 t) (.slice za n zc) 28) := bx
  have B3 : Hid (Below w.heap.size w w3) := bTrans B2.out b3
  have R3 : Hid (Box3 w3 w.heap.size (.slice none 0 0) (.int .i64 0) (.slice none 0 0) 28) := R2.out.keep b3
  have D3 : Hid (DrawOk wa.heap.size g w3) := D2.out.next b3
  have X3 : Hid (HX (w1.heap.size + 1) w2.heap.size w3 (.agg #[.slice xa W.length xc, .int .i64 t, .slice za n zc]) W t n E) := X2.out.keep b3
  have x0 := bx.c0
  have x1 := bx.c1
  have x2 := bx.c2
  have hg2 : w2.heap.size < g ∨ g + 1 ≤ w2.heap.size := .inr (by have := L2.out; omega)
  clear hW b3 bx B2 R2 D2 X2 B1 R1 D1
  go_region_held3 (fun w' => w'.cell? ⟨w2.heap.size, 0, none⟩ = some (.slice xa W.length xc) ∧ w'.cell? ⟨w2.heap.size, 1, none⟩ = some (.int .i64 t) ∧ w'.cell? ⟨w2.heap.size, 2, none⟩ = some (.slice za n zc))
    (first | with_reducible exact ⟨x0, x1, x2⟩ | (refine Box3.cells (ty := 28) ?_; (repeat first | with_reducible exact H3.out | with_reducible exact HX4.out | with_reducible refine Box3.other ?_ hq0 _ | with_reducible refine Box3.drew1 ?_); done) | go_keep)
    ((go_at_call 59; refine (drawAt_spec (B := wa.heap.size) (g := g) (W := W) (t := t) (n := n) (E := E) (by repeat first | exact D3.out | refine DrawOk.drew1 ?_) (by first | exact X3.out.hi | exact X3.out.hi.keep ((Below.refl _ _).drew)) (by have := V2.out.2.2; omega)).mono ?_; rintro r w4 ⟨x, rfl, hb4, hd4⟩; have B4 : Hid (But g w3 w4) := But.trans (by repeat first | exact But.refl _ _ | refine But.drew1 ?_) hb4; have HX4 : Hid (Box3 w4 w2.heap.size (.slice xa W.length xc) (.int .i64 t) (.slice za n zc) 28) := H3.out.win B4.out.win hg2; have hgl := GL.out; have hl2 := L2.out; have R4 : Hid (Box3 w4 w.heap.size (.slice none 0 0) (.int .i64 0) (.slice none 0 0) 28) := R3.out.win B4.out.win (.inl (by omega)); have hq0 : w2.heap.size ≠ w.heap.size := (by omega); clear hgl hl2; have m0 := R4.out.c0; have m1 := R4.out.c1; have m2 := R4.out.c2; have f0 := R4.out.free 0; have f1 := R4.out.free 1; have f2 := R4.out.free 2; clear hb4 hd4))
  all_goals
    have hl2 := L2.out
    have hw := win3 w4 w.heap.size (.slice xa W.length xc) (.int .i64 t) (.slice za n zc)
    have YZ : Box3 (((w4.setCell ⟨w.heap.size, 0, none⟩ (.slice xa W.length xc)).setCell ⟨w.heap.size, 1, none⟩ (.int .i64 t)).setCell ⟨w.heap.size, 2, none⟩ (.slice za n zc)) w.heap.size (.slice xa W.length xc) (.int .i64 t) (.slice za n zc) 28 := ((R4.out.set0 _).set1 _).set2 _
    have XZ : HI (((w4.setCell ⟨w.heap.size, 0, none⟩ (.slice xa W.length xc)).setCell ⟨w.heap.size, 1, none⟩ (.int .i64 t)).setCell ⟨w.heap.size, 2, none⟩ (.slice za n zc)) (.agg #[.slice xa W.length xc, .int .i64 t, .slice za n zc]) W t n E := ((X3.out.win B4.out.win (.inr (by omega))).win hw (.inr (by omega))).hi
    have b4 : Below w.heap.size w w4 := B3.out.trans (B4.out.below (by have := GL.out; omega) B3.out.size)
    have BZ : Below w.heap.size w (((w4.setCell ⟨w.heap.size, 0, none⟩ (.slice xa W.length xc)).setCell ⟨w.heap.size, 1, none⟩ (.int .i64 t)).setCell ⟨w.heap.size, 2, none⟩ (.slice za n zc)) := below_setCell (below_setCell (below_setCell b4 (Nat.le_refl _) _ _) (Nat.le_refl _) _ _) (Nat.le_refl _) _ _
    clear m0 m1 m2 f0 f1 f2 x0 x1 x2
    generalize (((w4.setCell ⟨w.heap.size, 0, none⟩ (.slice xa W.length xc)).setCell ⟨w.heap.size, 1, none⟩ (.int .i64 t)).setCell ⟨w.heap.size, 2, none⟩ (.slice za n zc)) = wz at *
    have v0 := YZ.c0
    have v1 := YZ.c1
    have v2 := YZ.c2
    go_wp2
    refine bodyPost_ret (v := .tuple #[.agg #[.slice xa W.length xc, .int .i64 t, .slice za n zc], .int .i64 x]) (by simp [results, Try.results23, go_sem, v0, v1, v2]) rfl ?_
    exact ⟨_, x, W, t, n, E, rfl, XZ, V2.out, BZ⟩
end Go.Proofs.Ytmmjidhpmbcoiaa
namespace Go.Proofs.Ytmmjidhpmbcoiaa
open Go.RowKit
set_option linter.unusedVariables false
set_option linter.unusedSimpArgs false
theorem HI.form {w : World} {v : Value} {W : List Int} {t : Int} {n : Nat} {E : Nat → Cel} (h : HI w v W t n E) : ∃ xa xc za zc, v = .agg #[.slice xa W.length xc, .int .i64 t, .slice za n zc] := by
  obtain ⟨wa, wc, ca, cc, e, _⟩ := h
  exact ⟨wa, wc, ca, cc, e⟩
theorem ArrI.form {w : World} {v : Value} {s d : List Int} (h : ArrI w v s d) : ∃ a c b e, v = .agg #[.slice a s.length c, .slice b d.length e] := by
  obtain ⟨a, c, b, e, q, _⟩ := h
  exact ⟨a, c, b, e, q⟩
section
variable {W : List Int} {t : Int} {n : Nat} {E : Nat → Cel}
theorem in_of {m : Nat} (hk : hOk m t n E) (hz : ∀ i, n ≤ i → in64 (E i).f ∧ in64 (E i).l) : (∀ i, in64 (E i).f ∧ in64 (E i).l) ∧ in64 t := by
  have h1 := hk.1
  have h2 := hk.2.1
  have h3 := hk.2.2.1
  refine ⟨fun i => ?_, by unfold in64; omega⟩
  by_cases hi : i < n
  · have hf := hk.2.2.2.2.1 i hi
    unfold in64
    cases hv : (E i).v with
    | true => have := hf.2 hv; omega
    | false => have := hf.1 hv; omega
  · exact hz i (by omega)
/-- A right heap all whose numbers fit. -/
def FineH (W : List Int) (t : Int) (n : Nat) (E : Nat → Cel) : Prop := hOk W.length t n E ∧ (∀ i, in64 (E i).f ∧ in64 (E i).l) ∧ in64 t
theorem FineH.v (h : FineH W t n E) : HpV W t n E := ⟨h.2, h.1.1, by have := h.1.2.2.2.1; omega⟩
theorem HpV.fine (h : HpV W t n E) (hk : hOk W.length t n E) : FineH W t n E := ⟨hk, h.1⟩
theorem in_cel0 : in64 cel0.f ∧ in64 cel0.l := ⟨by unfold in64; simp [cel0], by unfold in64; simp [cel0]⟩
theorem FineH.pack (h : FineH W t n E) : FineH (packW W t n E) (packT W t n E) n (packE E n) :=
  ⟨packed_ok h.1, in_of (packed_ok h.1) fun i hi => by rw [packE_dead fun q => absurd q (by omega)]; exact in_cel0⟩
theorem FineH.drop (h : FineH W t n E) (i : Int) : FineH W t n (dropE n E i) := by
  refine ⟨drop_ok h.1 i, in_of (drop_ok h.1 i) fun j hj => ?_⟩
  unfold dropE
  split
  · unfold up
    split
    · exact in_cel0
    · exact h.2.1 j
  · exact h.2.1 j
theorem FineH.put {ws : List Int} (h : FineH W t n E) (hb : putB W t n E ws = true) (hw : 0 < ws.length) : FineH (putW W t n E ws) (putT W t n E ws) (putN W t n E ws) (putE W t n E ws) := by
  have ok := put_ok h.1 hb hw
  refine ⟨ok, in_of ok fun j hj => ?_⟩
  have N := put_N (ws := ws) h.1
  rw [put_E, if_neg (by omega)]
  unfold qE
  split
  · exact h.2.1 j
  · rw [packE_dead fun q => absurd q (by omega)]; exact in_cel0
/-- Under the same handle the same array. -/
theorem get_eq {W' : List Int} {t' : Int} {n' : Nat} {E' : Nat → Cel} {i : Int} (h : gO W' t' n' E' i = gO W t n E i) : gB W' t' n' E' i = gB W t n E i ∧ gS W' t' n' E' i = gS W t n E i ∧ gD W' t' n' E' i = gD W t n E i := by
  unfold gB gS gD
  rw [h]
  exact ⟨rfl, rfl, rfl⟩
theorem used_ok (h : hOk W.length t n E) : usedH W.length t n E = usedN E n := by
  unfold usedH
  rw [if_pos (hOkB_true h)]
theorem used_bad (h : hOkB W.length t n E = false) : usedH W.length t n E = -1 := by
  unfold usedH
  rw [h]
  rfl
end
section
variable {V : World} {v u : Value} {W : List Int} {t : Int} {n : Nat} {E : Nat → Cel} {s d : List Int}
theorem hgetI (hV : HpV W t n E) (h : HI V v W t n E) (i : Int) : Calls Try.prog 21 #[v, .int .i64 i] V fun e w' => ∃ v', e = .returned (.tuple #[v', .bool (gB W t n E i)]) ∧ ArrI w' v' (gS W t n E i) (gD W t n E i) ∧ Below V.heap.size V w' := by
  refine (heapGet_impl sorts_by sorts_none i h hV.1 (by have := hV.2.1; omega) (by have := hV.2.2; omega)).mono ?_
  rintro e w' ⟨v', rfl, ha, hb⟩
  exact ⟨v', rfl, ha.arrI, hb⟩
theorem hgetS (hV : HpV W t n E) (h : HI V v W t n E) (i : Int) : Calls Try.prog 20 #[v, .int .i64 i] V fun e w' => ∃ v', e = .returned (.tuple #[v', .bool (gB W t n E i)]) ∧ ArrI w' v' (gS W t n E i) (gD W t n E i) ∧ Below V.heap.size V w' := by
  refine (heapGet_spec i h hV.1 (by have := hV.2.1; omega) (by have := hV.2.2; omega)).mono ?_
  rintro e w' ⟨v', rfl, ha, hb⟩
  exact ⟨v', rfl, ha.arrI, hb⟩
theorem husedI (hV : HpV W t n E) (h : HI V v W t n E) : Calls Try.prog 15 #[v] V fun e w' => e = .returned (.int .i64 (usedH W.length t n E)) ∧ Below V.heap.size V w' :=
  heapUsed_impl sorts_by sorts_none h hV.1 (by have := hV.2.1; omega) (by have := hV.2.2; omega)
theorem husedS (hV : HpV W t n E) (h : HI V v W t n E) : Calls Try.prog 29 #[v] V fun e w' => e = .returned (.int .i64 (usedH W.length t n E)) ∧ Below V.heap.size V w' :=
  heapUsed_spec h hV.1 (by have := hV.2.1; omega) (by have := hV.2.2; omega)
theorem hokI (hV : HpV W t n E) (h : HI V v W t n E) : Calls Try.prog 16 #[v] V fun e w' => e = .returned (.bool (hOkB W.length t n E)) ∧ Below V.heap.size V w' :=
  heapOk_impl sorts_by sorts_none h hV.1 (by have := hV.2.1; omega) (by have := hV.2.2; omega)
theorem hokS (hV : HpV W t n E) (h : HI V v W t n E) : Calls Try.prog 25 #[v] V fun e w' => e = .returned (.bool (hOkB W.length t n E)) ∧ Below V.heap.size V w' :=
  heapOk_spec h hV.1 (by have := hV.2.1; omega) (by have := hV.2.2; omega)
theorem hpackI (hV : HpV W t n E) (h : HI V v W t n E) : Calls Try.prog 26 #[v] V fun e w' => ∃ v', e = .returned (.tuple #[v', .bool (hOkB W.length t n E)]) ∧ HI w' v' (packW W t n E) (packT W t n E) (packN W t n E) (packE E n) ∧ Below V.heap.size V w' := by
  refine (heapPack_impl sorts_by sorts_none h hV.1 (by have := hV.2.1; omega) (by have := hV.2.2; omega)).mono ?_
  rintro e w' ⟨v', rfl, ha, hb⟩
  exact ⟨v', rfl, ha.hi, hb⟩
theorem hpackS (hV : HpV W t n E) (h : HI V v W t n E) : Calls Try.prog 28 #[v] V fun e w' => ∃ v', e = .returned (.tuple #[v', .bool (hOkB W.length t n E)]) ∧ HI w' v' (packW W t n E) (packT W t n E) (packN W t n E) (packE E n) ∧ Below V.heap.size V w' := by
  refine (heapPack_spec h hV.1 (by have := hV.2.1; omega) (by have := hV.2.2; omega)).mono ?_
  rintro e w' ⟨v', rfl, ha, hb⟩
  exact ⟨v', rfl, ha.hi, hb⟩
theorem hputI (hV : HpV W t n E) (h : HI V v W t n E) (ha : ArrI V u s d) (hd : d.length ≤ 301) : Calls Try.prog 14 #[v, u] V fun e w' => ∃ v', e = .returned (.tuple #[v', .int .i64 (outI W t n E s d), .bool (outB W t n E s d)]) ∧ HI w' v' (outW W t n E s d) (outT W t n E s d) (outN W t n E s d) (outE W t n E s d) ∧ Below V.heap.size V w' := by
  refine (heapPut_impl sorts_by sorts_none h hV.1 (by have := hV.2.1; omega) (by have := hV.2.2; omega) ha (by omega)).mono ?_
  rintro e w' ⟨v', rfl, hx, hb⟩
  exact ⟨v', rfl, hx.hi, hb⟩
theorem hputS (hV : HpV W t n E) (h : HI V v W t n E) (ha : ArrI V u s d) (hd : d.length ≤ 301) : Calls Try.prog 18 #[v, u] V fun e w' => ∃ v', e = .returned (.tuple #[v', .int .i64 (outI W t n E s d), .bool (outB W t n E s d)]) ∧ HI w' v' (outW W t n E s d) (outT W t n E s d) (outN W t n E s d) (outE W t n E s d) ∧ Below V.heap.size V w' := by
  refine (heapPut_spec h hV.1 (by have := hV.2.1; omega) (by have := hV.2.2; omega) ha (by omega)).mono ?_
  rintro e w' ⟨v', rfl, hx, hb⟩
  exact ⟨v', rfl, hx.hi, hb⟩
/-- What HeapDrop answers. -/
noncomputable def drpW (W : List Int) (t : Int) (n : Nat) (E : Nat → Cel) : List Int := if hOkB W.length t n E = true then W else []
noncomputable def drpT (W : List Int) (t : Int) (n : Nat) (E : Nat → Cel) : Int := if hOkB W.length t n E = true then t else 0
noncomputable def drpN (W : List Int) (t : Int) (n : Nat) (E : Nat → Cel) : Nat := if hOkB W.length t n E = true then n else 0
theorem hdropI (hV : HpV W t n E) (h : HI V v W t n E) (i : Int) : Calls Try.prog 19 #[v, .int .i64 i] V fun e w' => ∃ v', e = .returned (.tuple #[v', .bool (hOkB W.length t n E && liveB n E i)]) ∧ HI w' v' (drpW W t n E) (drpT W t n E) (drpN W t n E) (dropE n E i) ∧ Below V.heap.size V w' := by
  refine (heapDrop_impl sorts_by sorts_none i h hV.1 (by have := hV.2.1; omega) (by have := hV.2.2; omega)).mono ?_
  rintro e w' ⟨v', rfl, hx, hb⟩
  exact ⟨v', rfl, hx.hi, hb⟩
theorem hdropS (hV : HpV W t n E) (h : HI V v W t n E) (i : Int) : Calls Try.prog 24 #[v, .int .i64 i] V fun e w' => ∃ v', e = .returned (.tuple #[v', .bool (hOkB W.length t n E && liveB n E i)]) ∧ HI w' v' (drpW W t n E) (drpT W t n E) (drpN W t n E) (dropE n E i) ∧ Below V.heap.size V w' := by
  refine (heapDrop_spec i h hV.1 (by have := hV.2.1; omega) (by have := hV.2.2; omega)).mono ?_
  rintro e w' ⟨v', rfl, hx, hb⟩
  exact ⟨v', rfl, hx.hi, hb⟩
end
theorem gs_len (W : List Int) (t : Int) (n : Nat) (E : Nat → Cel) (i : Int) (h : W.length ≤ 6000) : (gS W t n E i).length ≤ 1048576 ∧ (gD W t n E i).length ≤ 1048576 := by
  have h1 := gS_len W t n E i
  have h2 := gD_len W t n E i
  omega
section
variable {W : List Int} {t : Int} {n : Nat} {E : Nat → Cel} {s d : List Int}
/-- An array was put: what is known behind it. -/
theorem put_facts (hV : HpV W t n E) (hB : outB W t n E s d = true) : hOk W.length t n E ∧ FineH (outW W t n E s d) (outT W t n E s d) (outN W t n E s d) (outE W t n E s d) ∧ liveB (outN W t n E s d) (outE W t n E s d) (outI W t n E s d) = true ∧
    gO (outW W t n E s d) (outT W t n E s d) (outN W t n E s d) (outE W t n E s d) (outI W t n E s d) = some (s, d) ∧
    usedN (outE W t n E s d) (outN W t n E s d) = usedN E n + (1 + s.length + d.length : Nat) ∧ ((outE W t n E s d) (outI W t n E s d).toNat).l = (1 + s.length + d.length : Nat) ∧ n ≤ outN W t n E s d ∧
    ∀ k : Nat, k < n → ((k : Int) ≠ outI W t n E s d ∧ gO (outW W t n E s d) (outT W t n E s d) (outN W t n E s d) (outE W t n E s d) k = gO W t n E k) ∨ ((k : Int) = outI W t n E s d ∧ gO W t n E k = none) := by
  have hB' := hB
  unfold outB at hB'
  simp only [Bool.and_eq_true] at hB'
  obtain ⟨h1, h2, h3⟩ := hB'
  have ok := hOkB_iff.1 h1
  obtain ⟨_, o2, o3, o4, o5, o6⟩ := out_put h1 h2 h3
  rw [o2, o3, o4, o5, o6]
  have hw : 0 < (wsA s d).length := by rw [wsA_len]; omega
  have hF := (hV.fine ok).put h3 hw
  have N := put_N (ws := wsA s d) ok
  have hE : putE W t n E (wsA s d) (putH W t n E (wsA s d)) = ⟨qT W t n E (wsA s d), ((wsA s d).length : Int), true⟩ := by rw [put_E, if_pos rfl]
  refine ⟨ok, hF, ?_, ?_, ?_, ?_, N.1, fun k hk => ?_⟩
  · unfold liveB
    simp only [Int.toNat_natCast]
    rw [hE, decide_eq_true (show ((putH W t n E (wsA s d) : Nat) : Int) < (putN W t n E (wsA s d) : Int) by omega)]
    simp
  · rw [put_got ok h3 hw, arrOf_words h2]
  · rw [put_used ok h3, wsA_len]
  · simp only [Int.toNat_natCast]
    rw [hE, wsA_len]
  · by_cases e : k = putH W t n E (wsA s d)
    · right
      refine ⟨by rw [e], ?_⟩
      rw [e]
      exact get_dead (put_free ok h3)
    · left
      exact ⟨by omega, put_get ok h3 hw hk e⟩
theorem put_none (hB : outB W t n E s d = false) : outI W t n E s d = -1 ∧ (outN W t n E s d = n ∨ (outW W t n E s d).length = 0) := by
  refine ⟨by unfold outI; rw [hB]; rfl, ?_⟩
  unfold outN outW
  rw [hB]
  by_cases h : hOkB W.length t n E = true
  · left; rw [if_neg (by decide), if_pos h]
  · right; rw [if_neg (by decide), if_neg h]; rfl
/-- Put and dropped again. -/
theorem twice_facts (hV : HpV W t n E) (hB : outB W t n E s d = true) : FineH (outW W t n E s d) (outT W t n E s d) (outN W t n E s d) (dropE (outN W t n E s d) (outE W t n E s d) (outI W t n E s d)) ∧
    usedN (dropE (outN W t n E s d) (outE W t n E s d) (outI W t n E s d)) (outN W t n E s d) = usedN E n ∧
    ∀ k : Nat, k < n → gO (outW W t n E s d) (outT W t n E s d) (outN W t n E s d) (dropE (outN W t n E s d) (outE W t n E s d) (outI W t n E s d)) k = gO W t n E k := by
  obtain ⟨ok, hF, hl, _, hu, hL, _, hg⟩ := put_facts hV hB
  refine ⟨hF.drop _, ?_, fun k hk => ?_⟩
  · rw [drop_used hl, hu, hL]; omega
  · rcases hg k hk with ⟨h1, h2⟩ | ⟨h1, h2⟩
    · rw [drop_get hF.1 h1, h2]
    · rw [h2, h1]
      exact get_dead (drop_dead hl)
end
/-- An array is the same as one like it. -/
theorem hsame {V : World} {v u : Value} {s d : List Int} (h : ArrI V v s d) (k : ArrI V u s d) (hl : s.length ≤ 1048576 ∧ d.length ≤ 1048576) :
    Calls Try.prog 22 #[v, u] V fun e w' => e = .returned (.bool true) ∧ Below V.heap.size V w' := by
  refine (same_arr h k hl.1 hl.2).mono ?_
  rintro e w' ⟨rfl, hb⟩
  exact ⟨by simp, hb⟩
section
variable {W : List Int} {t : Int} {n : Nat} {E : Nat → Cel} {s d : List Int}
theorem drop_none {i : Int} (h : (hOkB W.length t n E && liveB n E i) = false) : drpN W t n E = n ∨ (drpW W t n E).length = 0 := by
  unfold drpN drpW
  by_cases q : hOkB W.length t n E = true
  · left; rw [if_pos q]
  · right; rw [if_neg q]; rfl
/-- An array was dropped: what is known behind it. -/
theorem drop_facts (hV : HpV W t n E) {i : Int} (hB : (hOkB W.length t n E && liveB n E i) = true) : hOk W.length t n E ∧ (∃ k : Nat, i = (k : Int) ∧ k < n) ∧ drpW W t n E = W ∧ drpT W t n E = t ∧ drpN W t n E = n ∧ FineH W t n (dropE n E i) ∧
    gB W t n (dropE n E i) i = false ∧ gS W t n (dropE n E i) i = [] ∧ gD W t n (dropE n E i) i = [] ∧ (hOkB W.length t n (dropE n E i) && liveB n (dropE n E i) i) = false ∧ hOkB W.length t n (dropE n E i) = true ∧
    usedH W.length t n (dropE n E i) = usedH W.length t n E - (E i.toNat).l ∧ ∀ k : Nat, (k : Int) ≠ i → gO W t n (dropE n E i) k = gO W t n E k := by
  simp only [Bool.and_eq_true] at hB
  obtain ⟨h1, h2⟩ := hB
  have ok := hOkB_iff.1 h1
  have hF := (hV.fine ok).drop i
  obtain ⟨g1, g2, g3⟩ := gO_none (get_dead (W := W) (t := t) (drop_dead h2))
  obtain ⟨k, e, hk, _⟩ := liveB_at h2
  refine ⟨ok, ⟨k, e, hk⟩, if_pos h1, if_pos h1, if_pos h1, hF, g3, g1, g2, by rw [drop_dead h2]; simp, hOkB_true hF.1, ?_, fun k hk => drop_get ok hk⟩
  rw [used_ok hF.1, used_ok ok, drop_used h2]
/-- A heap was packed: what is known behind it. -/
theorem pack_facts (hV : HpV W t n E) (ok : hOk W.length t n E) : FineH (packW W t n E) (packT W t n E) n (packE E n) ∧ packN W t n E = n ∧ (packW W t n E).length = W.length ∧ packT W t n E = usedH W.length t n E ∧
    packN (packW W t n E) (packT W t n E) n (packE E n) = n ∧ packW (packW W t n E) (packT W t n E) n (packE E n) = packW W t n E ∧ packT (packW W t n E) (packT W t n E) n (packE E n) = packT W t n E ∧
    (∀ i, gO (packW W t n E) (packT W t n E) n (packE E n) i = gO W t n E i) ∧ ∀ k : Nat, k < n → (packE E n k).v = (E k).v ∧ (packE E n k).l = (E k).l ∧ (packE E n k).f ≤ (E k).f := by
  have hF := (hV.fine ok).pack
  refine ⟨hF, if_pos (hOkB_true ok), (pack_bd (hOkB_true ok)).1, by rw [used_ok ok, pack_top ok], if_pos (hOkB_true hF.1), (pack_again ok).1, (pack_again ok).2, fun i => pack_get ok i, fun k hk => ⟨packE_v hk, packE_l ok hk, packE_f ok hk⟩⟩
/-- Put, and packed behind it. -/
theorem heap_facts (hV : HpV W t n E) (hB : outB W t n E s d = true) : usedH (outW W t n E s d).length (outT W t n E s d) (outN W t n E s d) (outE W t n E s d) = usedH W.length t n E + 1 + s.length + d.length ∧
    ∀ k : Nat, k < n → gB W t n E k = true → (gB (outW W t n E s d) (outT W t n E s d) (outN W t n E s d) (outE W t n E s d) k = true ∧ gS (outW W t n E s d) (outT W t n E s d) (outN W t n E s d) (outE W t n E s d) k = gS W t n E k ∧ gD (outW W t n E s d) (outT W t n E s d) (outN W t n E s d) (outE W t n E s d) k = gD W t n E k) := by
  obtain ⟨ok, hF, hl, _, hu, hL, _, hg⟩ := put_facts hV hB
  refine ⟨by rw [used_ok hF.1, used_ok ok, hu]; omega, fun k hk hgb => ?_⟩
  rcases hg k hk with ⟨h1, h2⟩ | ⟨h1, h2⟩
  · obtain ⟨e1, e2, e3⟩ := get_eq h2
    exact ⟨e1.trans hgb, e2, e3⟩
  · rw [(gO_none h2).2.2] at hgb
    cases hgb
end
end Go.Proofs.Ytmmjidhpmbcoiaa
