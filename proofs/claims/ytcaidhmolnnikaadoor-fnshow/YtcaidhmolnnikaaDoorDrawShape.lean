/-
  Walks: the specification's draws of shapes (l2DrawRight, l2Draw): each returns a short list in new memory, and nothing that was there turns but the cursor.
-/
import Derived.Test.YtcaidhmolnnikaaDoorDraw
import Derived.Test.YtcaidhmolnnikaaDoorOwn
import Derived.Test.YtcaidhmolnnikaaDoorDrawA
namespace Go.Proofs.YtcaidhmolnnikaaDoor
open Go.RowKit
set_option linter.unusedVariables false
theorem DrawOk.grown {B g : Nat} {w w' : World} {row : Option Nat} (h : DrawOk B g w) (hg : w.grownBy w' row) (hr : ∀ k, row = some k → g < k) : DrawOk B g w' :=
  h.keep ((Below.refl B w).grown hg h.2.1 (fun k e => by have := hr k e; have := h.1; omega)) (hg.block g h.lt (fun e => by have := hr g e.symm; omega))
/-- Small numbers. -/
def Near (l : List Int) : Prop := ∀ x ∈ l, -1 ≤ x ∧ x ≤ 301
set_option maxRecDepth 20000 in
set_option maxHeartbeats 2000000 in
theorem right_spec {B g : Nat} {w : World} (hd : DrawOk B g w) :
    Calls Tryd.prog 92 #[.pointer (some ⟨g, 0, none⟩)] w fun e w' => ∃ v l, e = .returned v ∧ (l.length ≤ 3 ∧ Near l) ∧ NewInts w.heap.size w' v l ∧ But g w w' ∧ DrawOk B g w' := by
  have HD : Hid (DrawOk B g w) := hd
  clear hd
  go_enter Tryd.func92, Tryd.ntmps92
  go_wp2_with fail
  refine (below_small HD.out 5 (by decide) (by decide)).mono ?_
  rintro e w1 ⟨x, x1, x2, rfl, hb, hd⟩
  have HB1 : Hid (But g _ w1) := hb
  have HD1 : Hid (DrawOk B g w1) := hd
  clear hb hd
  have hx : x = 0 ∨ x = 1 ∨ x = 2 ∨ x = 3 ∨ x = 4 := by omega
  rcases hx with rfl | rfl | rfl | rfl | rfl
  · go_wp2
    go_ret
    exact ⟨_, [], rfl, ⟨by decide, by intro x h; simp at h⟩, newInts_alloc _ [] HB1.out.size (by decide), HB1.out.alloc _, DrawOk.alloc HD1.out _⟩
  · go_wp2_with fail
    refine (below_small HD1.out 6 (by decide) (by decide)).mono ?_
    rintro e w2 ⟨y, y1, y2, rfl, hb, hd⟩
    have HB2 : Hid (But g _ w2) := hb
    have HD2 : Hid (DrawOk B g w2) := hd
    clear hb hd
    go_wp2
    go_ret
    exact ⟨_, [y], rfl, ⟨by simp, by intro x h; simp at h; omega⟩, newInts_alloc _ [y] (HB1.out.trans HB2.out).size (by simp), (HB1.out.trans HB2.out).alloc _, DrawOk.alloc HD2.out _⟩
  · go_wp2_with fail
    refine (below_small HD1.out 6 (by decide) (by decide)).mono ?_
    rintro e w2 ⟨y, y1, y2, rfl, hb, hd⟩
    have HB2 : Hid (But g _ w2) := hb
    have HD2 : Hid (DrawOk B g w2) := hd
    clear hb hd
    go_wp2
    go_ret
    exact ⟨_, [y], rfl, ⟨by simp, by intro x h; simp at h; omega⟩, newInts_alloc _ [y] (HB1.out.trans HB2.out).size (by simp), (HB1.out.trans HB2.out).alloc _, DrawOk.alloc HD2.out _⟩
  · go_wp2_with fail
    refine (below_small HD1.out 4 (by decide) (by decide)).mono ?_
    rintro e w2 ⟨y, y1, y2, rfl, hb, hd⟩
    have HB2 : Hid (But g _ w2) := hb
    have HD2 : Hid (DrawOk B g w2) := hd
    clear hb hd
    go_wp2_with fail
    refine (below_small HD2.out 3 (by decide) (by decide)).mono ?_
    rintro e w3 ⟨z, z1, z2, rfl, hb, hd⟩
    have HB3 : Hid (But g _ w3) := hb
    have HD3 : Hid (DrawOk B g w3) := hd
    clear hb hd
    go_wp2
    go_ret
    exact ⟨_, [y, 1 + z], rfl, ⟨by simp, by intro x h; simp at h; omega⟩, newInts_alloc _ [y, 1 + z] ((HB1.out.trans HB2.out).trans HB3.out).size (by simp), ((HB1.out.trans HB2.out).trans HB3.out).alloc _, DrawOk.alloc HD3.out _⟩
  · go_wp2_with fail
    refine (below_small HD1.out 3 (by decide) (by decide)).mono ?_
    rintro e w2 ⟨y, y1, y2, rfl, hb, hd⟩
    have HB2 : Hid (But g _ w2) := hb
    have HD2 : Hid (DrawOk B g w2) := hd
    clear hb hd
    go_wp2_with fail
    refine (below_small HD2.out 2 (by decide) (by decide)).mono ?_
    rintro e w3 ⟨z, z1, z2, rfl, hb, hd⟩
    have HB3 : Hid (But g _ w3) := hb
    have HD3 : Hid (DrawOk B g w3) := hd
    clear hb hd
    go_wp2_with fail
    refine (below_small HD3.out 4 (by decide) (by decide)).mono ?_
    rintro e w4 ⟨u, u1, u2, rfl, hb, hd⟩
    have HB4 : Hid (But g _ w4) := hb
    have HD4 : Hid (DrawOk B g w4) := hd
    clear hb hd
    go_wp2
    go_ret
    exact ⟨_, [1 + y, 1 + z, u], rfl, ⟨by simp, by intro x h; simp at h; omega⟩, newInts_alloc _ [1 + y, 1 + z, u] (((HB1.out.trans HB2.out).trans HB3.out).trans HB4.out).size (by simp), (((HB1.out.trans HB2.out).trans HB3.out).trans HB4.out).alloc _, DrawOk.alloc HD4.out _⟩
set_option maxRecDepth 20000 in
set_option maxHeartbeats 4000000 in
theorem shape_draw {B g : Nat} {w : World} (hd : DrawOk B g w) :
    Calls Tryd.prog 69 #[.pointer (some ⟨g, 0, none⟩)] w fun e w' => ∃ v l, e = .returned v ∧ (l.length ≤ 4 ∧ Near l) ∧ NewInts w.heap.size w' v l ∧ But g w w' ∧ DrawOk B g w' := by
  have HD : Hid (DrawOk B g w) := hd
  have hgw := hd.lt
  clear hd
  have hi := info_int
  obtain ⟨i0, hq, z1, z2, z3⟩ : ∃ i0, Tryd.prog.info? 3 = some i0 ∧ i0.zero = some (.int .i64 0) ∧ i0.size = 1 ∧ i0.bytes = 8 := by
    cases hq : Tryd.prog.info? 3 with
    | none => rw [hq] at hi; cases hi
    | some i => rw [hq] at hi; simp at hi; exact ⟨i, rfl, hi.1, hi.2.1, hi.2.2⟩
  clear hi
  go_enter Tryd.func69, Tryd.ntmps69
  go_wp2_with fail
  refine (right_spec HD.out).mono ?_
  rintro e w1 ⟨v, l, rfl, ⟨hl, hnear⟩, hn, hb, hd⟩
  have NR : Hid (Near l) := hnear
  clear hnear
  have HN : Hid (NewInts w.heap.size w1 v l) := hn
  have HB1 : Hid (But g w w1) := hb
  have HD1 : Hid (DrawOk B g w1) := hd
  clear hn hb hd
  go_wp2_with fail
  refine (below_small HD1.out 20 (by decide) (by decide)).mono ?_
  rintro e w2 ⟨x, x1, x2, rfl, hb, hd⟩
  have HB2 : Hid (But g _ w2) := hb
  have HD2 : Hid (DrawOk B g w2) := hd
  have hz2 := hd.lt
  clear hb hd
  have HN2 : Hid (NewInts w.heap.size w2 v l) := HN.out.but HB2.out hgw
  have HB12 : Hid (But g w w2) := HB1.out.trans HB2.out
  have hsz := HB12.out.size
  clear HN
  by_cases q0 : x = 0
  · subst q0
    go_wp2_with fail
    refine (pick_spec (B := B) (g := g) (gl := w2.heap.size) (HD2.out.alloc _) 4 4 (by decide) (by decide) (by omega) (by simp) (nums_alloc w2 [(-1 : Int), 0, 300, 301] _) rfl).mono ?_
    rintro e w3 ⟨y, rfl, hb, hd, hm⟩
    have HB3 : Hid (But g _ w3) := hb
    have HD3 : Hid (DrawOk B g w3) := hd
    have hz3 := hd.lt
    clear hb hd
    have HN3 : Hid (NewInts w.heap.size w3 v l) := (HN2.out.but ((But.refl g w2).alloc _) hgw).but HB3.out hgw
    have HB13 : Hid (But g w w3) := (HB12.out.alloc _).trans HB3.out
    have hsz3 := HB13.out.size
    go_wp2_with (at_builtin; refine wpList_append_own _ rfl _ _ 22 rfl w.heap.size 3 i0 (.int .i64 0) 1 8 Tryd.underlying22 hq z1 z2 z3 rfl (by decide) _ _ _ rfl (World.ownsRow.alloc HN3.out _) ⟨w3.heap.size, 0, none⟩ 1 1 [.int .i64 y] rfl rfl ?c1 ?c2 ?c3 ?c4 ?c5 ?_)
    case c1 =>
      intro j u hj
      match j, hj with
      | 0, hj => simp at hj; subst hj; simp [Addr.add]
    case c2 => intro u hu; simp at hu; subst hu; rfl
    case c3 => unfold maxLen; omega
    case c4 => omega
    case c5 => simp; omega
    intro v' w4 hown hgrow _
    have hrow := HN3.out.row
    have HN4 : Hid (NewInts w.heap.size w4 v' (l ++ [y])) := by
      show World.ownsRow _ _ _ _ _ _ _
      simpa using hown
    have HB4 : Hid (But g w w4) := (HB13.out.alloc _).grown hgrow hrow
    have HD4 : Hid (DrawOk B g w4) := (HD3.out.alloc _).grown hgrow (fun k e => by have := hrow k e; omega)
    clear hown hgrow hrow
    go_wp2
    go_ret
    exact ⟨_, l ++ [y], rfl, ⟨by simp; omega, by intro x h; simp at h hm; rcases h with h | h; exact NR.out x h; omega⟩, HN4.out, HB4.out, HD4.out⟩
  by_cases q1 : x = 1
  · subst q1
    go_wp2
    go_ret
    exact ⟨_, [1, 1, 1, 1], rfl, ⟨by simp, by intro x h; simp at h; omega⟩, newInts_alloc w2 [1, 1, 1, 1] hsz (by simp), HB12.out.alloc _, HD2.out.alloc _⟩
  by_cases q2 : x = 2
  · subst q2
    go_wp2_with fail
    refine (pick_spec (B := B) (g := g) (gl := w2.heap.size) (HD2.out.alloc _) 4 4 (by decide) (by decide) (by omega) (by simp) (nums_alloc w2 [17, 20, 15, 300] _) rfl).mono ?_
    rintro e w3 ⟨y, rfl, hb, hd, hm⟩
    have HB3 : Hid (But g _ w3) := hb
    have HD3 : Hid (DrawOk B g w3) := hd
    have hz3 := hd.lt
    clear hb hd
    go_wp2_with fail
    refine (pick_spec (B := B) (g := g) (gl := w3.heap.size) (HD3.out.alloc _) 4 4 (by decide) (by decide) (by omega) (by simp) (nums_alloc w3 [15, 20, 16, 0] _) rfl).mono ?_
    rintro e w4 ⟨u, rfl, hb, hd, hm2⟩
    have HB4 : Hid (But g _ w4) := hb
    have HD4 : Hid (DrawOk B g w4) := hd
    have hz4 := hd.lt
    clear hb hd
    have HB14 : Hid (But g w w4) := (((HB12.out.alloc _).trans HB3.out).alloc _).trans HB4.out
    have hsz4 := HB14.out.size
    go_wp2
    go_ret
    exact ⟨_, [y, u], rfl, ⟨by simp, by intro x h; simp at h hm hm2; omega⟩, newInts_alloc w4 [y, u] hsz4 (by simp), HB14.out.alloc _, HD4.out.alloc _⟩
  · go_wp2
    go_ret
    exact ⟨_, l, rfl, ⟨by omega, NR.out⟩, HN2.out, HB12.out, HD2.out⟩
end Go.Proofs.YtcaidhmolnnikaaDoor
