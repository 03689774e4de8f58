/-
  Several walks, one behind the other: HeapR4, HeapR5, HeapG2, HeapG3, HeapD, HeapD2, LaysF, SortL, HeapZ, HeapZ1, HeapZ2, HeapZ3, HeapN, SpecCopy, SpecOne, SpecEach1, EachF.
-/
import Derived.Test.YtmmjidhpmbcoiaaZ1
import Derived.Deep.Cut
import Derived.Test.YtmmjidhpmbcoiaaHeapV
import Derived.Test.YtmmjidhpmbcoiaaHeapI3
import Derived.Shelf.SlSortCmp.NoneTotal
import Derived.Test.YtmmjidhpmbcoiaaProg
import Derived.Test.YtmmjidhpmbcoiaaSortF
import Derived.Test.YtmmjidhpmbcoiaaHeapF
import Derived.Test.YtmmjidhpmbcoiaaSmall
import Derived.Test.YtmmjidhpmbcoiaaAppend
import Derived.Test.YtmmjidhpmbcoiaaLaw3
import Derived.Deep.RegionHeld3
import Derived.Test.YtmmjidhpmbcoiaaEachP
import Derived.Test.YtmmjidhpmbcoiaaSpecArr
namespace Go.Proofs.Ytmmjidhpmbcoiaa
open Go.RowKit
set_option linter.unusedVariables false
set_option linter.unusedSimpArgs false
theorem pkC_dead (E : Nat → Cel) (hs : List Nat) : ∀ k i, (pkC E hs (fun _ => cel0) k i).v = false → pkC E hs (fun _ => cel0) k i = cel0
  | 0, i, _ => rfl
  | k + 1, i, h => by
    simp only [pkC] at h ⊢
    by_cases e : i = hn hs k
    · subst e; rw [up_at] at h; cases h
    · rw [up_ne _ _ e] at h ⊢; exact pkC_dead E hs k i h
theorem q_dead {W : List Int} {t : Int} {n : Nat} {E : Nat → Cel} {ws : List Int} (hk : hOkB W.length t n E = true) : ∀ i, i < n → (qE W t n E ws i).v = false → qE W t n E ws i = cel0 := by
  intro i hi
  unfold qE
  split
  · exact fun h => fit_dead ((hOkB_iff.1 hk).2.2.2.2.1 i hi) h
  · exact fun h => pkC_dead E _ _ i h
theorem packed_implH2 (hS : SortsBy) (hS0 : SortsNone) {w : World} {v : Value} {W : List Int} {t : Int} {n : Nat} {E : Nat → Cel} (h : HI w v W t n E) (hk : hOkB W.length t n E = true) :
    Calls Try.prog 61 #[v] w fun e w' => ∃ v', e = .returned v' ∧ HX w.heap.size w'.heap.size w' v' (packW W t n E) (packT W t n E) n (packE E n) ∧ CapH w' v' n ∧ Below w.heap.size w w' := by
  have ok := hOkB_iff.1 hk
  refine (packed_impl2 hS hS0 h ok).mono ?_
  rintro e w' ⟨v', hs, rfl, hO, hX, ⟨x, y, a, rfl⟩, hb⟩
  obtain rfl := ord_unique ok hO (ordH_ord E n)
  refine ⟨_, rfl, ?_, ?_, hb⟩
  · unfold packW packT packE
    rw [if_pos hk, if_pos hk]
    exact hX
  · obtain ⟨x', z', B1, C1, B2, C2, e, _, _, _, h2⟩ := hX
    cases e
    exact ⟨_, _, _, _, rfl, Cap.full h2⟩
/-- The same heap later; more blocks that it leaves alone. -/
theorem HB.widen {L g : Nat} {F F' : Nat → Prop} {w w' : World} {x z : Value} {W : List Int} {t : Int} {n : Nat} {E : Nat → Cel} (h : HB L F g w x z W t n E) (hb : Below w.heap.size w w') (hF' : ∀ k, F' k → F k ∨ (w.heap.size ≤ k ∧ k < w'.heap.size)) : HB L F' g w' x z W t n E := by
  have hlt := h.box.lt
  obtain ⟨B1, C1, B2, C2, h1, h2, h3, h4, h5, hF, h6, h7⟩ := h
  have hs := hb.size
  refine ⟨B1, C1, B2, C2, h1.keep hb, by omega, h3, h4, h5, fun k hk => ?_, h6.keep hb, h7.keep hb⟩
  rcases hF' k hk with hk | hk
  · have := hF k hk; omega
  · omega
theorem HB.lessF {L g : Nat} {F F' : Nat → Prop} {w : World} {x z : Value} {W : List Int} {t : Int} {n : Nat} {E : Nat → Cel} (h : HB L F' g w x z W t n E) (hF : ∀ k, F k → F' k) : HB L F g w x z W t n E := by
  obtain ⟨B1, C1, B2, C2, h1, h2, h3, h4, h5, hp, h6, h7⟩ := h
  exact ⟨B1, C1, B2, C2, h1, h2, h3, h4, h5, fun k hk => hp k (hF k hk), h6, h7⟩
theorem HXE.far {P : Nat → Prop} {B C A : Nat} {w w' : World} {v : Value} {W : List Int} {t : Int} {n : Nat} {E : Nat → Cel} (h : HXE P B C w v W t n E) (hw : Win A (A + 1) w w') (hA : C ≤ A) : HXE P B C w' v W t n E := by
  obtain ⟨x, z, B1, C1, B2, C2, e, m, d, hp, h1, h2⟩ := h
  exact ⟨x, z, B1, C1, B2, C2, e, m, d, hp, h1.win hw (by omega), h2.win hw (by omega)⟩
theorem HB.hxg {L g : Nat} {F : Nat → Prop} {w : World} {x z : Value} {W : List Int} {t : Int} {n : Nat} {E : Nat → Cel} (h : HB L F g w x z W t n E) : HXE (fun k => F k ∨ k = g) L w.heap.size w (.agg #[x, .int .i64 t, z]) W t n E := by
  obtain ⟨B1, C1, B2, C2, h1, h2, h3, h4, h5, hF, h6, h7⟩ := h
  refine ⟨x, z, B1, C1, B2, C2, rfl, by omega, h3, fun k hk => ?_, h6, h7⟩
  rcases hk with hk | rfl
  · exact (hF k hk).2.2
  · exact ⟨h4, h5⟩
/-- Laid into its box again. -/
theorem HXE.lay {L g C : Nat} {F : Nat → Prop} {w : World} {x z : Value} {W : List Int} {t : Int} {n : Nat} {E : Nat → Cel} (h : HXE (fun k => F k ∨ k = g) L C w (.agg #[x, .int .i64 t, z]) W t n E) (hb : Box3 w g x (.int .i64 t) z 28) (hC : C ≤ w.heap.size) (hL : L ≤ g) (hF : ∀ k, F k → k < w.heap.size ∧ k ≠ g) : HB L F g w x z W t n E := by
  obtain ⟨x', z', B1, C1, B2, C2, e, m, d, hp, h1, h2⟩ := h
  cases e
  have hg := hp g (.inr rfl)
  exact ⟨B1, C1, B2, C2, hb, by omega, d, hg.1, hg.2, fun k hk => by have := hF k hk; have := hp k (.inl hk); omega, h1, h2⟩
set_option maxRecDepth 20000 in
set_option maxHeartbeats 16000000 in
/-- put of a right array. -/
theorem put_right (hS : SortsBy) (hS0 : SortsNone) {L g : Nat} {F : Nat → Prop} {w : World} {xa za : Option Addr} {xc zc : Nat} {W : List Int} {t : Int} {n : Nat} {E : Nat → Cel} {u : Value} {s d : List Int} (h : HB L F g w (.slice xa W.length xc) (.slice za n zc) W t n E) (hc : ZCap w (.slice za n zc) n) (hk : hOkB W.length t n E = true) (hL : L ≤ w.heap.size) (ha : ArrI w u s d) (hok : arrOk s d = true) :
    Calls Try.prog 46 #[.pointer (some ⟨g, 0, none⟩), u] w fun e w' => e = .returned (.tuple #[.int .i64 (if putB W t n E (wsA s d) = true then (putH W t n E (wsA s d) : Int) else -1), .bool (putB W t n E (wsA s d))]) ∧ (putB W t n E (wsA s d) = true → ∃ xa' xm xc' t' za' zn zc', HB L F g w' (.slice xa' xm xc') (.slice za' zn zc') (putW W t n E (wsA s d)) (putT W t n E (wsA s d)) (putN W t n E (wsA s d)) (putE W t n E (wsA s d)) ∧ t' = putT W t n E (wsA s d)) ∧ (putB W t n E (wsA s d) = false → HB L F g w' (.slice xa W.length xc) (.slice za n zc) W t n E) ∧ Below L w w' := by
  have H : Hid (HB L F g w (.slice xa W.length xc) (.slice za n zc) W t n E) := h
  have ZC : Hid (ZCap w (.slice za n zc) n) := hc
  have HK : Hid (hOkB W.length t n E = true) := hk
  have HL : Hid (L ≤ w.heap.size) := hL
  have HS : Hid (SortsBy ∧ SortsNone) := ⟨hS, hS0⟩
  have hdl := arrOk_len hok
  have hrk := arrOk_rank3 hok
  have CA : Hid (∀ W', Below w.heap.size w W' → Calls Try.prog 75 #[u] W' fun e w' => e = .returned (.bool true) ∧ Below W'.heap.size W' w') := fun W' hb => by rw [← hok]; exact arrOk_impl (ha.keep hb) (by omega)
  have CW : Hid (∀ V, Below w.heap.size w V → Calls Try.prog 80 #[u] V fun e w' => ∃ a c, e = .returned (.slice a (wsA s d).length c) ∧ Piece V.heap.size w'.heap.size w' (.slice a (wsA s d).length c) (wsA s d) ∧ Below V.heap.size V w') := fun V hb => words_impl (ha.keep hb) (by omega)
  obtain ⟨sa, sc, da, dc, rfl, _⟩ := ha
  have LW : Hid ((wsA s d).length ≤ 304 ∧ 0 < (wsA s d).length) := by show _ ∧ _; rw [wsA_len]; omega
  obtain ⟨ok1, ok2, ok3, ok4⟩ : W.length ≤ 6000 ∧ 0 ≤ t ∧ t ≤ W.length ∧ n ≤ 200 := by have := hOkB_iff.1 hk; exact ⟨this.1, this.2.1, this.2.2.1, this.2.2.2.1⟩
  generalize wsA s d = ws at *
  obtain ⟨PI, hPI⟩ : ∃ PI : Int, PI = if putB W t n E ws = true then (putH W t n E ws : Int) else -1 := ⟨_, rfl⟩
  have HPI : Hid (PI = if putB W t n E ws = true then (putH W t n E ws : Int) else -1) := hPI
  rw [← hPI]
  clear hPI
  have hmf : ∀ (fn : Fn) (first cap : Array Value) (w : World), (Instr.makeFunc fn first cap).run Try.prog w = .ok (.func fn first cap) w := fun _ _ _ _ => rfl
  have x0 := h.box.c0
  have x1 := h.box.c1
  have x2 := h.box.c2
  have q0 : ∀ O1 O2 O3, (((w.alloc O1).alloc O2).alloc O3).cell? ⟨g, 0, none⟩ = some (.slice xa W.length xc) := fun O1 O2 O3 => (((h.box.alloc O1).alloc O2).alloc O3).c0
  have q1 : ∀ O1 O2 O3, (((w.alloc O1).alloc O2).alloc O3).cell? ⟨g, 1, none⟩ = some (.int .i64 t) := fun O1 O2 O3 => (((h.box.alloc O1).alloc O2).alloc O3).c1
  have q2 : ∀ O1 O2 O3, (((w.alloc O1).alloc O2).alloc O3).cell? ⟨g, 2, none⟩ = some (.slice za n zc) := fun O1 O2 O3 => (((h.box.alloc O1).alloc O2).alloc O3).c2
  have nx0 := World.new_ne w ⟨g, 0, none⟩ x0
  clear h hL hok hk hc hS hS0
  go_enter_defers Try.func46, Try.ntmps46
  go_wp2_with fail
  generalize hV : (((w.alloc (.cells #[.pointer (some ⟨g, 0, none⟩)] 94)).alloc (.cells #[.slice sa s.length sc, .slice da d.length dc] 32)).alloc (.cells #[.bool false] 4)).alloc (.cells #[.slice xa W.length xc, .int .i64 t, .slice za n zc] 28) = w1
  have B1 : Hid (Below w.heap.size w w1) := by rw [← hV]; exact bAlloc (bAlloc (bAlloc (bAlloc (Below.refl _ _) _) _) _) _
  have PB1 : Hid (PutBox w.heap.size g w1 (.slice xa W.length xc) (.int .i64 t) (.slice za n zc) false) := by rw [← hV]; exact putBox_new w _ _ _ _ _
  have AB1 : Hid (Box w1 (w.heap.size + 1) (.slice sa s.length sc) (.slice da d.length dc) 32) := by
    have k2 := box_new (w.alloc (.cells #[.pointer (some ⟨g, 0, none⟩)] 94)) (.slice sa s.length sc) (.slice da d.length dc) 32
    show Box _ _ _ _ _
    rw [← hV]
    exact Box.keep (by simpa using k2) (bAlloc (bAlloc (Below.refl _ _) _) _)
  have SZ : Hid (w1.heap.size = w.heap.size + 4) := by rw [← hV]; show _ = _; simp
  clear hV x0 x1 x2 q0 q1 q2 nx0 hmf
  refine (CA.out _ B1.out).mono ?_
  rintro r w2 ⟨rfl, hb⟩
  have B2 : Hid (Below w.heap.size w w2) := bTrans B1.out hb
  have PB2 : Hid (PutBox w.heap.size g w2 (.slice xa W.length xc) (.int .i64 t) (.slice za n zc) false) := PB1.out.keep hb
  have AB2 : Hid (Box w2 (w.heap.size + 1) (.slice sa s.length sc) (.slice da d.length dc) 32) := AB1.out.keep hb
  have S2 : Hid (w.heap.size + 4 ≤ w2.heap.size) := by show _ ≤ _; have := hb.size; rw [SZ.out] at this; exact this
  clear hb B1 PB1 AB1
  have a0 := AB2.out.c0
  have a1 := AB2.out.c1
  go_wp2_with fail
  refine (CW.out _ B2.out).mono ?_
  rintro r w3 ⟨pa, pc, rfl, hP, hb⟩
  have hs3 := hb.size
  have s2 := S2.out
  have B3 : Hid (Below w.heap.size w w3) := bTrans B2.out hb
  have PB3 : Hid (PutBox w.heap.size g w3 (.slice xa W.length xc) (.int .i64 t) (.slice za n zc) false) := PB2.out.keep hb
  obtain ⟨P1, hP1⟩ : ∃ P1, P1 = w2.heap.size := ⟨_, rfl⟩
  obtain ⟨P2, hP2⟩ : ∃ P2, P2 = w3.heap.size := ⟨_, rfl⟩
  have PW3 : Hid (Piece P1 P2 w3 (.slice pa ws.length pc) ws) := by rw [hP1, hP2]; exact hP
  obtain ⟨F', hF'⟩ : ∃ F' : Nat → Prop, F' = fun k => F k ∨ (w.heap.size ≤ k ∧ k < w.heap.size + 4) ∨ (P1 ≤ k ∧ k < P2) := ⟨_, rfl⟩
  have FP : Hid (∀ k, P1 ≤ k → k < P2 → F' k) := fun k h1 h2 => by rw [hF']; exact .inr (.inr ⟨h1, h2⟩)
  have FN : Hid (∀ k, w.heap.size ≤ k → k < w.heap.size + 4 → F' k) := fun k h1 h2 => by rw [hF']; exact .inr (.inl ⟨h1, h2⟩)
  have FF : Hid (∀ k, F k → F' k) := fun k h => by rw [hF']; exact .inl h
  have H3 : Hid (HB L F' g w3 (.slice xa W.length xc) (.slice za n zc) W t n E) := H.out.widen B3.out fun k hk => by
    rw [hF'] at hk
    rcases hk with hk | hk | hk
    · exact .inl hk
    · exact .inr ⟨hk.1, by omega⟩
    · exact .inr ⟨by omega, by omega⟩
  have Z3 : Hid (ZCap w3 (.slice za n zc) n) := ZC.out.keep B3.out
  clear hP hb a0 a1 hP1 hP2 hF' hs3 s2 CA CW PB2 AB2
  have x0 := H3.out.box.c0
  have x1 := H3.out.box.c1
  have x2 := H3.out.box.c2
  have p0 := PB3.out.p0
  have O3 : Hid (HXE (fun k => F k ∨ k = g) L w.heap.size w3 (.agg #[.slice xa W.length xc, .int .i64 t, .slice za n zc]) W t n E) := H.out.hxg.keep B3.out
  go_wp2_with fail
  refine (hasRoom_impl ws.length w3 ⟨ok2, ok3⟩ ok1).mono ?_
  rintro r w4 ⟨rfl, hb⟩
  have B4 : Hid (Below w.heap.size w w4) := bTrans B3.out hb
  have PB4 : Hid (PutBox w.heap.size g w4 (.slice xa W.length xc) (.int .i64 t) (.slice za n zc) false) := PB3.out.keep hb
  have PW4 : Hid (Piece P1 P2 w4 (.slice pa ws.length pc) ws) := PW3.out.keep hb
  have H4 : Hid (HB L F' g w4 (.slice xa W.length xc) (.slice za n zc) W t n E) := H3.out.keep hb
  have Z4 : Hid (ZCap w4 (.slice za n zc) n) := Z3.out.keep hb
  have O4 : Hid (HXE (fun k => F k ∨ k = g) L w.heap.size w4 (.agg #[.slice xa W.length xc, .int .i64 t, .slice za n zc]) W t n E) := O3.out.keep hb
  clear hb x0 x1 x2 p0 PB3 PW3 H3 Z3 O3 B3
  have p0 := PB4.out.p0
  have hle := H.out.le
  have hl0 := HL.out
  have hsz4 := B4.out.size
  go_upto_if 25 with fail
  obtain ⟨q, hq⟩ : ∃ q, q = decide ((ws.length : Int) ≤ (W.length : Int) - t) := ⟨_, rfl⟩
  rw [← hq]
  go_cut [] from 26 (fun w' => ∃ (ya : Option Addr) (yc : Nat) (ua : Option Addr) (uc : Nat), HB L F' g w' (.slice ya (qW W t n E ws).length yc) (.slice ua n uc) (qW W t n E ws) (qT W t n E ws) n (qE W t n E ws) ∧ ZCap w' (.slice ua n uc) n ∧ Piece P1 P2 w' (.slice pa ws.length pc) ws ∧ PutBox w.heap.size g w' (.slice xa W.length xc) (.int .i64 t) (.slice za n zc) false ∧ HXE (fun k => F k ∨ k = g) L w.heap.size w' (.agg #[.slice xa W.length xc, .int .i64 t, .slice za n zc]) W t n E ∧ Below L w w')
  case first =>
    cases q
    · have hr : ¬ ((ws.length : Int) ≤ (W.length : Int) - t) := of_decide_eq_false hq.symm
      have e1 : qW W t n E ws = packW W t n E := if_neg hr
      have e2 : qT W t n E ws = packT W t n E := if_neg hr
      have e3 : qE W t n E ws = packE E n := if_neg hr
      clear hq
      have x0 := H4.out.box.c0
      have x1 := H4.out.box.c1
      have x2 := H4.out.box.c2
      have FB : Hid (∀ k, F' k → k < w4.heap.size ∧ k ≠ g) := H4.out.free
      go_wp2_with fail
      refine wp_region_noPanic ?_
      refine wp_region_held_drew (S := (fun w' => w'.cell? ⟨w.heap.size, 0, none⟩ = some (.pointer (some ⟨g, 0, none⟩)))) (by kernel_rfl) ?_ (fun hHeld0 => ?_)
      · (try dsimp only); (first | exact p0 | exact p5 | exact p6)
      refine wpAnyH_take (i := 0) (oi := _) (v := ?_) rfl (by kernel_rfl) (by kernel_rfl) (by kernel_rfl) (fun _ _ _ h => h) (Or.inl ⟨by rfl, ?_⟩) (by assumption) ?_
      rotate_left
      · intro wS hSw; (try dsimp only at hSw); go_simp; (try with_reducible rfl)
      try simp only [Act.put, List.setIfInBounds_toArray, List.set_cons_zero, List.set_cons_succ]
      refine wpAnyH_take (i := 1) (oi := _) (v := ?_) rfl (by kernel_rfl) (by kernel_rfl) (by kernel_rfl) (fun _ _ _ h => h) (Or.inl ⟨by rfl, ?_⟩) (by assumption) ?_
      rotate_left
      · intro wS hSw; (try dsimp only at hSw); go_simp; (try with_reducible rfl)
      try simp only [Act.put, List.setIfInBounds_toArray, List.set_cons_zero, List.set_cons_succ]
      refine wpAnyH_take (i := 2) (oi := _) (v := ?_) rfl (by kernel_rfl) (by kernel_rfl) (by kernel_rfl) (fun _ _ _ h => h) (Or.inl ⟨by rfl, ?_⟩) (by assumption) ?_
      rotate_left
      · intro wS hSw; (try dsimp only at hSw); go_simp; (try with_reducible rfl)
      try simp only [Act.put, List.setIfInBounds_toArray, List.set_cons_zero, List.set_cons_succ]
      refine wpAnyH_ready (rs := [3]) (by kernel_rfl) (by simp) ?_
      refine AllReadyH.cons (o := _) rfl (fun K hK => ?_) AllReadyH.nil
      go_simp
      refine hK.out _ _ ?_ (fun hHeld1 => ?_)
      · (try dsimp only); (first | exact p0 | exact p5 | exact p6)
      clear hK K hHeld0
      try simp only [Act.put, List.setIfInBounds_toArray, List.set_cons_zero, List.set_cons_succ]
      refine wpAnyH_ready (rs := [4]) (by kernel_rfl) (by simp) ?_
      refine AllReadyH.cons (o := _) rfl (fun K hK => ?_) AllReadyH.nil
      go_simp
      ((go_at_call 61; refine (packed_implH2 HS.out.1 HS.out.2 (H4.out.hx.hi.keep ((Below.refl w4.heap.size w4).drew)) HK.out).mono ?_; rintro r w5 ⟨v5, rfl, hX, hcap, hb⟩; obtain ⟨ya, yc, ua, uc, rfl⟩ := hX.form; have B5 : Hid (Below w4.heap.size w4 w5) := bTrans ((Below.refl w4.heap.size w4).drew) hb; have X5 : Hid (HX w4.heap.size w5.heap.size w5 (.agg #[.slice ya (packW W t n E).length yc, .int .i64 (packT W t n E), .slice ua n uc]) (packW W t n E) (packT W t n E) n (packE E n)) := hX; have C5 : Hid (CapH w5 (.agg #[.slice ya (packW W t n E).length yc, .int .i64 (packT W t n E), .slice ua n uc]) n) := hcap; have p5 := (PB4.out.keep B5.out).p0; have p6 : (((w5.setCell ⟨g, 0, none⟩ (.slice ya (packW W t n E).length yc)).setCell ⟨g, 1, none⟩ (.int .i64 (packT W t n E))).setCell ⟨g, 2, none⟩ (.slice ua n uc)).cell? ⟨w.heap.size, 0, none⟩ = some (.pointer (some ⟨g, 0, none⟩)) := ((PB4.out.keep B5.out).stay (w' := (((w5.setCell ⟨g, 0, none⟩ (.slice ya (packW W t n E).length yc)).setCell ⟨g, 1, none⟩ (.int .i64 (packT W t n E))).setCell ⟨g, 2, none⟩ (.slice ua n uc))) fun k h1 h2 => (((win_setCell _ _ _ _).trans (win_setCell _ _ _ _)).trans (win_setCell _ _ _ _) : Win g (g + 1) w5 _).block k (Nat.lt_of_lt_of_le (FB.out k (FN.out k h1 h2)).1 B5.out.size) (by omega)).p0; have y0 := (H4.out.box.keep B5.out).c0; have y1 := (H4.out.box.keep B5.out).c1; have y2 := (H4.out.box.keep B5.out).c2; have f0 := (H4.out.box.keep B5.out).free 0; have f1 := (H4.out.box.keep B5.out).free 1; have f2 := (H4.out.box.keep B5.out).free 2; clear hX hcap hb))
      try go_wp2_with fail
      refine hK.out _ _ ?_ (fun hHeld2 => ?_)
      · (try dsimp only); (first | exact p0 | exact p5 | exact p6)
      clear hK K hHeld1
      try simp only [Act.put, List.setIfInBounds_toArray, List.set_cons_zero, List.set_cons_succ]
      refine wpAnyH_take (i := 5) (oi := _) (v := ?_) rfl (by kernel_rfl) (by kernel_rfl) (by kernel_rfl) (fun _ _ _ h => h) (Or.inl ⟨by rfl, ?_⟩) (by assumption) ?_
      rotate_left
      · intro wS hSw; (try dsimp only at hSw); go_simp; (try with_reducible rfl)
      try simp only [Act.put, List.setIfInBounds_toArray, List.set_cons_zero, List.set_cons_succ]
      refine wpAnyH_ready (rs := [6]) (by kernel_rfl) (by simp) ?_
      refine AllReadyH.cons (o := _) rfl (fun K hK => ?_) AllReadyH.nil
      go_simp
      refine hK.out _ _ ?_ (fun hHeld3 => ?_)
      · (try dsimp only); (first | exact p0 | exact p5 | exact p6)
      clear hK K hHeld2
      try simp only [Act.put, List.setIfInBounds_toArray, List.set_cons_zero, List.set_cons_succ]
      refine wpAnyH_done (by kernel_rfl) ?_ _
      refine NoPanic.normal ?_
      all_goals
        have s5 := B5.out.size
        have wz : Win g (g + 1) w5 (((w5.setCell ⟨g, 0, none⟩ (.slice ya (packW W t n E).length yc)).setCell ⟨g, 1, none⟩ (.int .i64 (packT W t n E))).setCell ⟨g, 2, none⟩ (.slice ua n uc)) := ((win_setCell _ _ _ _).trans (win_setCell _ _ _ _)).trans (win_setCell _ _ _ _)
        have sz : (((w5.setCell ⟨g, 0, none⟩ (.slice ya (packW W t n E).length yc)).setCell ⟨g, 1, none⟩ (.int .i64 (packT W t n E))).setCell ⟨g, 2, none⟩ (.slice ua n uc)).heap.size = w5.heap.size := by simp [World.setCell]
        have hg5 := H4.out.box.keep B5.out
        have H6 : Hid (HB L F' g (((w5.setCell ⟨g, 0, none⟩ (.slice ya (packW W t n E).length yc)).setCell ⟨g, 1, none⟩ (.int .i64 (packT W t n E))).setCell ⟨g, 2, none⟩ (.slice ua n uc)) (.slice ya (packW W t n E).length yc) (.slice ua n uc) (packW W t n E) (packT W t n E) n (packE E n)) := HB.lay (X5.out.win wz (.inr (by omega))) (((hg5.set0 _).set1 _).set2 _) (by omega) (.inl (by omega)) ⟨by omega, by omega⟩ (fun k hk => by have := FB.out k hk; omega)
        have Z6 : Hid (ZCap (((w5.setCell ⟨g, 0, none⟩ (.slice ya (packW W t n E).length yc)).setCell ⟨g, 1, none⟩ (.int .i64 (packT W t n E))).setCell ⟨g, 2, none⟩ (.slice ua n uc)) (.slice ua n uc) n) := by
          obtain ⟨a, c, e, h⟩ := HX.zcap (B := 0) (C := 0) (W := W) (t := t) (E := E) C5.out
          exact ⟨a, c, e, ((h.set _ _ _).set _ _ _).set _ _ _⟩
        have P6 : Hid (Piece P1 P2 (((w5.setCell ⟨g, 0, none⟩ (.slice ya (packW W t n E).length yc)).setCell ⟨g, 1, none⟩ (.int .i64 (packT W t n E))).setCell ⟨g, 2, none⟩ (.slice ua n uc)) (.slice pa ws.length pc) ws) := (PW4.out.keep B5.out).stay fun k h1 h2 => wz.block k (by have := (FB.out k (FP.out k h1 h2)).1; omega) (by have := (FB.out k (FP.out k h1 h2)).2; omega)
        have PB6 : Hid (PutBox w.heap.size g (((w5.setCell ⟨g, 0, none⟩ (.slice ya (packW W t n E).length yc)).setCell ⟨g, 1, none⟩ (.int .i64 (packT W t n E))).setCell ⟨g, 2, none⟩ (.slice ua n uc)) (.slice xa W.length xc) (.int .i64 t) (.slice za n zc) false) := (PB4.out.keep B5.out).stay fun k h1 h2 => wz.block k (by have := (FB.out k (FN.out k h1 h2)).1; omega) (by omega)
        have O6 : Hid (HXE (fun k => F k ∨ k = g) L w.heap.size (((w5.setCell ⟨g, 0, none⟩ (.slice ya (packW W t n E).length yc)).setCell ⟨g, 1, none⟩ (.int .i64 (packT W t n E))).setCell ⟨g, 2, none⟩ (.slice ua n uc)) (.agg #[.slice xa W.length xc, .int .i64 t, .slice za n zc]) W t n E) := (O4.out.keep B5.out).win (.inl (.inr rfl)) wz
        have B6 : Hid (Below L w (((w5.setCell ⟨g, 0, none⟩ (.slice ya (packW W t n E).length yc)).setCell ⟨g, 1, none⟩ (.int .i64 (packT W t n E))).setCell ⟨g, 2, none⟩ (.slice ua n uc))) := ((B4.out.trans (B5.out.mono hsz4)).mono hl0).trans (wz.below (by omega) (by omega))
        clear wz sz hg5 p5 p6 y0 y1 y2 f0 f1 f2 p0 x0 x1 x2
        go_wp2_with fail
        go_meet
        case rel =>
          rw [e1, e2, e3]
          first
            | exact ⟨ya, yc, ua, uc, H6.out, Z6.out, P6.out, PB6.out, O6.out, B6.out⟩
            | exact ⟨ya, yc, ua, uc, H6.out, Z6.out, P6.out, PB6.out, O6.out, B6.out.drew⟩
    · have hr : (ws.length : Int) ≤ (W.length : Int) - t := of_decide_eq_true hq.symm
      have e1 : qW W t n E ws = W := if_pos hr
      have e2 : qT W t n E ws = t := if_pos hr
      have e3 : qE W t n E ws = E := if_pos hr
      clear hq
      go_wp2_with fail
      go_meet
      case rel => rw [e1, e2, e3]; exact ⟨xa, xc, za, zc, H4.out, Z4.out, PW4.out, PB4.out, O4.out, B4.out.mono hl0⟩
  obtain ⟨w5, hwc⟩ : ∃ x, x = wc := ⟨_, rfl⟩
  subst hwc
  obtain ⟨ya, yc, ua, uc, h5, z5, pw5, pb5, o5, b5⟩ := hcut
  have PB : Hid (putB W t n E ws = (decide ((ws.length : Int) ≤ (qW W t n E ws).length - qT W t n E ws) && decide (putH W t n E ws < 200))) := rfl
  have PH : Hid (putH W t n E ws = lead (fun i => (qE W t n E ws i).v) n) := rfl
  have PWd : Hid (putW W t n E ws = pst (qW W t n E ws) (qT W t n E ws).toNat ws ws.length) := rfl
  have PT : Hid (putT W t n E ws = qT W t n E ws + ws.length) := rfl
  have PN : Hid (putN W t n E ws = if putH W t n E ws = n then n + 1 else n) := rfl
  have PE : Hid (putE W t n E ws = up (qE W t n E ws) (putH W t n E ws) ⟨qT W t n E ws, ws.length, true⟩) := rfl
  have QB := q_bd (ws := ws) HK.out
  have QD : Hid (∀ i, i < n → (qE W t n E ws i).v = false → qE W t n E ws i = cel0) := q_dead HK.out
  have q2 : (qW W t n E ws).length ≤ 6000 := by rw [QB.1]; exact QB.2.1
  have q3 := QB.2.2.1
  have q4 : qT W t n E ws ≤ (qW W t n E ws).length := by rw [QB.1]; exact QB.2.2.2.1
  clear QB H4 Z4 PW4 PB4 O4 B4 p0 hq
  generalize qW W t n E ws = QW at *
  generalize qT W t n E ws = QT at *
  generalize qE W t n E ws = QE at *
  have H5 : Hid (HB L F' g w5 (.slice ya QW.length yc) (.slice ua n uc) QW QT n QE) := h5
  have Z5 : Hid (ZCap w5 (.slice ua n uc) n) := z5
  have PW5 : Hid (Piece P1 P2 w5 (.slice pa ws.length pc) ws) := pw5
  have PB5 : Hid (PutBox w.heap.size g w5 (.slice xa W.length xc) (.int .i64 t) (.slice za n zc) false) := pb5
  have O5 : Hid (HXE (fun k => F k ∨ k = g) L w.heap.size w5 (.agg #[.slice xa W.length xc, .int .i64 t, .slice za n zc]) W t n E) := o5
  have B5 : Hid (Below L w w5) := b5
  clear h5 z5 pw5 pb5 o5 b5
  have hle5 := lead_le (fun i => (QE i).v) n
  rw [← PH.out] at hle5
  have x0 := H5.out.box.c0
  have x1 := H5.out.box.c1
  have x2 := H5.out.box.c2
  have p0 := PB5.out.p0
  go_wp2_with fail
  refine (free_impl H5.out.csA QD.out (by omega)).mono ?_
  rintro r w6 ⟨rfl, hb⟩
  rw [← PH.out]
  have H6 : Hid (HB L F' g w6 (.slice ya QW.length yc) (.slice ua n uc) QW QT n QE) := H5.out.keep hb
  have Z6 : Hid (ZCap w6 (.slice ua n uc) n) := Z5.out.keep hb
  have PW6 : Hid (Piece P1 P2 w6 (.slice pa ws.length pc) ws) := PW5.out.keep hb
  have PB6 : Hid (PutBox w.heap.size g w6 (.slice xa W.length xc) (.int .i64 t) (.slice za n zc) false) := PB5.out.keep hb
  have O6 : Hid (HXE (fun k => F k ∨ k = g) L w.heap.size w6 (.agg #[.slice xa W.length xc, .int .i64 t, .slice za n zc]) W t n E) := O5.out.keep hb
  have B6 : Hid (Below L w w6) := B5.out.trans (hb.mono (Nat.le_trans HL.out B5.out.size))
  clear hb x0 x1 x2 p0 H5 Z5 PW5 PB5 O5 B5
  generalize putH W t n E ws = K at *
  have x0 := H6.out.box.c0
  have x1 := H6.out.box.c1
  have x2 := H6.out.box.c2
  have p0 := PB6.out.p0
  go_wp2_with fail
  refine (hasRoom_impl ws.length w6 ⟨q3, q4⟩ q2).mono ?_
  rintro r w7 ⟨rfl, hb⟩
  have H7 : Hid (HB L F' g w7 (.slice ya QW.length yc) (.slice ua n uc) QW QT n QE) := H6.out.keep hb
  have Z7 : Hid (ZCap w7 (.slice ua n uc) n) := Z6.out.keep hb
  have PW7 : Hid (Piece P1 P2 w7 (.slice pa ws.length pc) ws) := PW6.out.keep hb
  have PB7 : Hid (PutBox w.heap.size g w7 (.slice xa W.length xc) (.int .i64 t) (.slice za n zc) false) := PB6.out.keep hb
  have O7 : Hid (HXE (fun k => F k ∨ k = g) L w.heap.size w7 (.agg #[.slice xa W.length xc, .int .i64 t, .slice za n zc]) W t n E) := O6.out.keep hb
  have B7 : Hid (Below L w w7) := B6.out.trans (hb.mono (Nat.le_trans HL.out B6.out.size))
  clear hb x0 x1 x2 p0 H6 Z6 PW6 PB6 O6 B6
  by_cases hroom : (ws.length : Int) ≤ (QW.length : Int) - QT
  · by_cases hK : (K : Int) ≥ 200
    · have hK2 : Hid (¬ K < 200) := by show ¬ _; omega
      have QV : Hid (putB W t n E ws = false) := by show _ = _; rw [PB.out]; first | (simp; omega) | (simp; intros; omega)
      have d0 := PB7.out.d0
      have df := PB7.out.df
      go_wp2_with fail
      clear d0 df
      have PB8 : Hid (PutBox w.heap.size g (w7.setCell ⟨w.heap.size + 1 + 1, 0, none⟩ (.bool false)) (.slice xa W.length xc) (.int .i64 t) (.slice za n zc) false) := PB7.out.done false
      have hw8 := win_setCell w7 (w.heap.size + 1 + 1) 0 (.bool false)
      have X8 : Hid (Box3 (w7.setCell ⟨w.heap.size + 1 + 1, 0, none⟩ (.bool false)) g (.slice ya QW.length yc) (.int .i64 QT) (.slice ua n uc) 28) := H7.out.box.win hw8 (.inl (by omega))
      have O8 : Hid (HXE (fun k => F k ∨ k = g) L w.heap.size (w7.setCell ⟨w.heap.size + 1 + 1, 0, none⟩ (.bool false)) (.agg #[.slice xa W.length xc, .int .i64 t, .slice za n zc]) W t n E) := O7.out.far hw8 (by omega)
      have B8 : Hid (Below L w (w7.setCell ⟨w.heap.size + 1 + 1, 0, none⟩ (.bool false))) := below_setCell B7.out (by omega) _ _
      clear hw8
      generalize w7.setCell ⟨w.heap.size + 1 + 1, 0, none⟩ (.bool false) = w8 at *
      refine leaves_cons (f := 79) (args := #[.pointer (some ⟨w.heap.size + 1 + 1, 0, none⟩), .pointer (some ⟨w.heap.size + 1 + 1 + 1, 0, none⟩), .pointer (some ⟨w.heap.size, 0, none⟩)]) (by simp) (by simp [go_sem]) ?_
      refine (undo_back (x := undef) (y := undef) (z := undef) .returning _ PB8.out.d0 PB8.out.w PB8.out.p0 X8.out).mono ?_
      rintro e u' w9 ⟨rfl, rfl, h9⟩
      have hwin : Win g (g + 1) w8 w9 := by rw [h9]; exact ((win_setCell _ _ _ _).trans (win_setCell _ _ _ _)).trans (win_setCell _ _ _ _)
      have hs9 := hwin.size
      have hs8 := B8.out.size
      have X9 : Box3 w9 g (.slice xa W.length xc) (.int .i64 t) (.slice za n zc) 28 := by rw [h9]; exact ((X8.out.set0 _).set1 _).set2 _
      have H9 : Hid (HB L F g w9 (.slice xa W.length xc) (.slice za n zc) W t n E) := (O8.out.win (.inl (.inr rfl)) hwin).lay X9 (by omega) (by omega) fun k hk => by have := H.out.free k hk; omega
      have B9 : Hid (Below L w w9) := B8.out.trans (hwin.below (by omega) (by omega))
      have PB9 : Hid (PutBox w.heap.size g w9 (.slice xa W.length xc) (.int .i64 t) (.slice za n zc) false) := PB8.out.stay fun k h1 h2 => hwin.block k (by have := PB8.out.w.lt; omega) (by omega)
      have e0 := PB9.out.d0
      have eP : PI = -1 := by rw [HPI.out, QV.out]; rfl
      clear h9 hwin X9
      simp [Leaves, settle, results, Try.results46, go_sem, e0]
      refine ⟨⟨eP.symm, QV.out⟩, fun h => absurd h (by rw [QV.out]; decide), fun _ => H9.out, B9.out⟩
    · have hK2 : K < 200 := by omega
      have QV : Hid (putB W t n E ws = true) := by show _ = _; rw [PB.out]; simp; omega
      obtain ⟨NN, hNN⟩ : ∃ NN, NN = if K = n then n + 1 else n := ⟨_, rfl⟩
      have HNN : Hid (NN = if K = n then n + 1 else n) := hNN
      have CWi : Hid (Calls Try.prog 83 #[.slice ua n uc, .int .i64 (K : Int), .agg #[.int .i64 QT, .int .i64 (ws.length : Int), .bool true]] w7.drew fun e w' => WithPost L F' g w7.drew (.slice ya QW.length yc) ua uc QW QT n NN (up QE K ⟨QT, ws.length, true⟩) e w') := by
        rw [hNN]
        exact with_any (H7.out.keep ((Below.refl _ _).drew)) (Z7.out.keep ((Below.refl _ _).drew)) ok4 (Nat.le_trans HL.out B7.out.size) K hle5 ⟨QT, ws.length, true⟩
      clear hNN
      have x1 := H7.out.box.c1
      have p0 := PB7.out.p0
      have hroom' : ¬ ((QW.length : Int) - QT < (ws.length : Int)) := by omega
      go_wp2_with fail
      go_region_held3 (fun w' => w'.cell? ⟨w.heap.size, 0, none⟩ = some (.pointer (some ⟨g, 0, none⟩)) ∧ w'.cell? ⟨g, 1, none⟩ = some (.int .i64 QT))
        (first | exact ⟨p0, x1⟩ | exact ⟨p8, t8⟩ | exact ⟨p9, t9⟩)
        ((go_at_call 83; refine CWi.out.mono ?_; rintro r w8 ⟨a8, c8, rfl, bx8, h8, b8, k8⟩; have hwn := win_setCell w8 g 2 (.slice a8 NN c8); have PB8 : Hid (PutBox w.heap.size g w8 (.slice xa W.length xc) (.int .i64 t) (.slice za n zc) false) := (PB7.out.keep ((Below.refl w7.heap.size w7).drew)).stay fun k h1 h2 => k8 k (FN.out k h1 h2); have s8 := b8.size; have PB9 : Hid (PutBox w.heap.size g (w8.setCell ⟨g, 2, none⟩ (.slice a8 NN c8)) (.slice xa W.length xc) (.int .i64 t) (.slice za n zc) false) := PB8.out.stay fun k h1 h2 => hwn.block k (by have := PB8.out.w.lt; omega) (by omega); have H9 : Hid (HB L F' g (w8.setCell ⟨g, 2, none⟩ (.slice a8 NN c8)) (.slice ya QW.length yc) (.slice a8 NN c8) QW QT NN (up QE K ⟨QT, ws.length, true⟩)) := h8; have PW9 : Hid (Piece P1 P2 (w8.setCell ⟨g, 2, none⟩ (.slice a8 NN c8)) (.slice pa ws.length pc) ws) := ((PW7.out.keep ((Below.refl w7.heap.size w7).drew)).stay fun k h1 h2 => k8 k (FP.out k h1 h2)).stay fun k h1 h2 => hwn.block k (Nat.lt_of_lt_of_le (H7.out.free k (FP.out k h1 h2)).1 s8) (by have := (H7.out.free k (FP.out k h1 h2)).2; omega); have B9 : Hid (Below L w (w8.setCell ⟨g, 2, none⟩ (.slice a8 NN c8))) := below_setCell ((B7.out.drew).trans b8) (by omega) _ _; have p8 := PB8.out.p0; have t8 := bx8.c1; have z8 := bx8.c2; have fz := bx8.free 2; have p9 := PB9.out.p0; have t9 := H9.out.box.c1; clear bx8 h8 b8 k8 hwn s8))
      all_goals
        clear p8 t8 z8 fz p9 t9 PB8 x1 p0
        generalize w8.setCell ⟨g, 2, none⟩ (.slice a8 NN c8) = w9 at *
        have hT : ((QT.toNat : Nat) : Int) = QT := by omega
        generalize QT.toNat = T at *
        subst hT
        have hlw := LW.out
        obtain ⟨pa', pc', epa, hpi⟩ := PW9.out.ints
        cases epa
        obtain ⟨gw, off, nrow, exa, hLg, hgg, hFg, hsl, hcp, h10⟩ := H9.out.copy hpi (T := T) (by omega) hlw.2 pc
        have CP : Hid (∀ V : World, V.heap = w9.heap → ∀ ty, (Builtin.copy_ #[25, 25] ty #[.slice (some ⟨gw, off + T, none⟩) (QW.length - T) (yc - T), .slice pa ws.length pc]).run Try.prog V = .ok (.int .i64 (ws.length : Int)) (V.setRow gw nrow)) := hcp
        have hwr := setRow_win w9 gw nrow
        have H10 : Hid (HB L F' g (w9.setRow gw nrow) (.slice ya QW.length yc) (.slice a8 NN c8) (pst QW T ws ws.length) (T : Int) NN (up QE K ⟨(T : Int), ws.length, true⟩)) := h10
        have PB10 : Hid (PutBox w.heap.size g (w9.setRow gw nrow) (.slice xa W.length xc) (.int .i64 t) (.slice za n zc) false) := PB9.out.stay fun k h1 h2 => hwr.block k (by have := PB9.out.w.lt; omega) (by have := hFg k (FN.out k h1 h2); omega)
        have B10 : Hid (Below L w (w9.setRow gw nrow)) := B9.out.trans (hwr.below hLg (Nat.le_trans HL.out B9.out.size))
        have x0 := H9.out.box.c0
        have x1 := H9.out.box.c1
        have p0 := PB9.out.p0
        have y0 : (w9.drew.setRow gw nrow).cell? ⟨g, 0, none⟩ = some (.slice ya QW.length yc) := H10.out.box.c0
        have y1 : (w9.drew.setRow gw nrow).cell? ⟨g, 1, none⟩ = some (.int .i64 (T : Int)) := H10.out.box.c1
        have yf : (w9.drew.setRow gw nrow).frozen? ⟨g, 1, none⟩ = false := H10.out.box.free 1
        have yp : (w9.drew.setRow gw nrow).cell? ⟨w.heap.size, 0, none⟩ = some (.pointer (some ⟨g, 0, none⟩)) := PB10.out.p0
        have H11 : Hid (HB L F' g ((w9.setRow gw nrow).setCell ⟨g, 1, none⟩ (.int .i64 ((T : Int) + (ws.length : Int)))) (.slice ya QW.length yc) (.slice a8 NN c8) (pst QW T ws ws.length) ((T : Int) + (ws.length : Int)) NN (up QE K ⟨(T : Int), ws.length, true⟩)) := H10.out.top _
        have PB11 : Hid (PutBox w.heap.size g ((w9.setRow gw nrow).setCell ⟨g, 1, none⟩ (.int .i64 ((T : Int) + (ws.length : Int)))) (.slice xa W.length xc) (.int .i64 t) (.slice za n zc) false) := PB10.out.stay fun k h1 h2 => (win_setCell _ g 1 _).block k (by have := PB10.out.w.lt; omega) (by omega)
        have B11 : Hid (Below L w ((w9.setRow gw nrow).setCell ⟨g, 1, none⟩ (.int .i64 ((T : Int) + (ws.length : Int))))) := below_setCell B10.out (by omega) _ _
        have zp : ((w9.drew.setRow gw nrow).setCell ⟨g, 1, none⟩ (.int .i64 ((T : Int) + (ws.length : Int)))).cell? ⟨w.heap.size, 0, none⟩ = some (.pointer (some ⟨g, 0, none⟩)) := PB11.out.p0
        have z0 : ((w9.drew.setRow gw nrow).setCell ⟨g, 1, none⟩ (.int .i64 ((T : Int) + (ws.length : Int)))).cell? ⟨g, 0, none⟩ = some (.slice ya QW.length yc) := H11.out.box.c0
        have hw1 : IntKind.i64.wrap ((T : Int) + (ws.length : Int)) = (T : Int) + (ws.length : Int) := by rw [IntKind.wrap_i64]; omega
        have tl : (T : Int) ≤ (QW.length : Int) := by omega
        clear hcp h10 hwr hpi hFg
        subst exa
        go_wp2_with fail
        refine wp_region_noPanic ?_
        refine wp_region_held_drew (S := (fun w' => w'.cell? ⟨w.heap.size, 0, none⟩ = some (.pointer (some ⟨g, 0, none⟩)) ∧ w'.cell? ⟨g, 0, none⟩ = some (.slice (some ⟨gw, off, none⟩) QW.length yc))) (by kernel_rfl) ?_ (fun hHeld0 => ?_)
        · (try dsimp only); (first | exact ⟨p0, x0⟩ | exact ⟨yp, y0⟩ | exact ⟨zp, z0⟩)
        refine wpAnyH_take (i := 0) (oi := _) (v := ?_) rfl (by kernel_rfl) (by kernel_rfl) (by kernel_rfl) (fun _ _ _ h => h) (Or.inl ⟨by rfl, ?_⟩) (by assumption) ?_
        rotate_left
        · intro wS hSw; (try dsimp only at hSw); go_simp; (try with_reducible rfl)
        try simp only [Act.put, List.setIfInBounds_toArray, List.set_cons_zero, List.set_cons_succ]
        refine wpAnyH_take (i := 1) (oi := _) (v := ?_) rfl (by kernel_rfl) (by kernel_rfl) (by kernel_rfl) (fun _ _ _ h => h) (Or.inl ⟨by rfl, ?_⟩) (by assumption) ?_
        rotate_left
        · intro wS hSw; (try dsimp only at hSw); go_simp; (try with_reducible rfl)
        try simp only [Act.put, List.setIfInBounds_toArray, List.set_cons_zero, List.set_cons_succ]
        refine wpAnyH_take (i := 2) (oi := _) (v := ?_) rfl (by kernel_rfl) (by kernel_rfl) (by kernel_rfl) (fun _ _ _ h => h) (Or.inl ⟨by rfl, ?_⟩) (by assumption) ?_
        rotate_left
        · intro wS hSw; (try dsimp only at hSw); go_simp; (try with_reducible rfl)
        try simp only [Act.put, List.setIfInBounds_toArray, List.set_cons_zero, List.set_cons_succ]
        refine wpAnyH_take (i := 4) (oi := _) (v := ?_) rfl (by kernel_rfl) (by kernel_rfl) (by kernel_rfl) (fun _ _ _ h => h) (Or.inl ⟨by rfl, ?_⟩) (by assumption) ?_
        rotate_left
        · intro wS hSw; (try dsimp only at hSw); go_simp; (try with_reducible rfl)
        try simp only [Act.put, List.setIfInBounds_toArray, List.set_cons_zero, List.set_cons_succ]
        refine wpAnyH_take (i := 5) (oi := _) (v := ?_) rfl (by kernel_rfl) (by kernel_rfl) (by kernel_rfl) (fun _ _ _ h => h) (Or.inl ⟨by rfl, ?_⟩) (by assumption) ?_
        rotate_left
        · intro wS hSw; (try dsimp only at hSw); go_simp; (try with_reducible rfl)
        try simp only [Act.put, List.setIfInBounds_toArray, List.set_cons_zero, List.set_cons_succ]
        refine wpAnyH_take (i := 6) (oi := _) (v := ?_) rfl (by kernel_rfl) (by kernel_rfl) (by kernel_rfl) (fun _ _ _ h => h) (Or.inl ⟨by rfl, ?_⟩) (by assumption) ?_
        rotate_left
        · intro wS hSw; (try dsimp only at hSw); go_simp; (try with_reducible rfl)
        try simp only [Act.put, List.setIfInBounds_toArray, List.set_cons_zero, List.set_cons_succ]
        refine wpAnyH_take (i := 7) (oi := _) (v := ?_) rfl (by kernel_rfl) (by kernel_rfl) (by kernel_rfl) (fun _ _ _ h => h) (Or.inl ⟨by rfl, ?_⟩) (by assumption) ?_
        rotate_left
        · intro wS hSw; (try dsimp only at hSw); go_simp; (try with_reducible rfl)
        try simp only [Act.put, List.setIfInBounds_toArray, List.set_cons_zero, List.set_cons_succ]
        refine wpAnyH_take (i := 8) (oi := _) (v := ?_) rfl (by kernel_rfl) (by kernel_rfl) (by kernel_rfl) (fun _ _ _ h => h) (Or.inl ⟨by rfl, ?_⟩) (by assumption) ?_
        rotate_left
        · intro wS hSw; (try dsimp only at hSw); go_simp; (try with_reducible rfl)
        try simp only [Act.put, List.setIfInBounds_toArray, List.set_cons_zero, List.set_cons_succ]
        refine wpAnyH_take (i := 9) (oi := _) (v := ?_) rfl (by kernel_rfl) (by kernel_rfl) (by kernel_rfl) (fun _ _ _ h => h) (Or.inl ⟨by rfl, ?_⟩) (by assumption) ?_
        rotate_left
        · intro wS hSw; (try dsimp only at hSw); go_simp; (try with_reducible rfl)
        try simp only [Act.put, List.setIfInBounds_toArray, List.set_cons_zero, List.set_cons_succ]
        refine wpAnyH_take (i := 10) (oi := _) (v := ?_) rfl (by kernel_rfl) (by kernel_rfl) (by kernel_rfl) (fun _ _ _ h => h) (Or.inl ⟨by rfl, ?_⟩) (by assumption) ?_
        rotate_left
        · intro wS hSw; (try dsimp only at hSw); go_simp; (try with_reducible rfl)
        try simp only [Act.put, List.setIfInBounds_toArray, List.set_cons_zero, List.set_cons_succ]
        refine wpAnyH_take (i := 13) (oi := _) (v := ?_) rfl (by kernel_rfl) (by kernel_rfl) (by kernel_rfl) (fun _ _ _ h => h) (Or.inl ⟨by rfl, ?_⟩) (by assumption) ?_
        rotate_left
        · intro wS hSw; (try dsimp only at hSw); go_simp; (try with_reducible rfl)
        try simp only [Act.put, List.setIfInBounds_toArray, List.set_cons_zero, List.set_cons_succ]
        refine wpAnyH_ready (rs := [3, 11]) (by kernel_rfl) (by simp) ?_
        refine AllReadyH.cons (o := _) rfl (fun K hK => ?_) ?_
        · skip
          go_simp
          refine hK.out _ _ ?_ (fun hHeld1 => ?_)
          · (try dsimp only); (first | exact ⟨p0, x0⟩ | exact ⟨yp, y0⟩ | exact ⟨zp, z0⟩)
          clear hK K hHeld0
          try simp only [Act.put, List.setIfInBounds_toArray, List.set_cons_zero, List.set_cons_succ]
          refine wpAnyH_ready (rs := [11]) (by kernel_rfl) (by simp) ?_
          refine AllReadyH.cons (o := _) rfl (fun K hK => ?_) AllReadyH.nil
          go_simp
          refine hK.out _ _ ?_ (fun hHeld2 => ?_)
          · (try dsimp only); (first | exact ⟨p0, x0⟩ | exact ⟨yp, y0⟩ | exact ⟨zp, z0⟩)
          clear hK K hHeld1
          try simp only [Act.put, List.setIfInBounds_toArray, List.set_cons_zero, List.set_cons_succ]
          refine wpAnyH_take (i := 12) (oi := _) (v := ?_) rfl (by kernel_rfl) (by kernel_rfl) (by kernel_rfl) (fun _ _ _ h => h) (Or.inl ⟨by rfl, ?_⟩) (by assumption) ?_
          rotate_left
          · intro wS hSw; (try dsimp only at hSw); go_simp; (try with_reducible rfl)
          try simp only [Act.put, List.setIfInBounds_toArray, List.set_cons_zero, List.set_cons_succ]
          refine wpAnyH_ready (rs := [14]) (by kernel_rfl) (by simp) ?_
          refine AllReadyH.cons (o := _) rfl (fun K hK => ?_) AllReadyH.nil
          (first | refine step_copyI (by rfl) (.tmp 74) (.tmp 75) 25 25 (by rfl) _ _ _ (by rfl) (by rfl) (CP.out w9.drew rfl _) ?_ | refine step_copyI (by rfl) (.tmp 74) (.tmp 75) 25 25 (by rfl) _ _ _ (by rfl) (by rfl) (CP.out w9 rfl _) ?_)
          refine hK.out _ _ ?_ (fun hHeld3 => ?_)
          · (try dsimp only); (first | exact ⟨p0, x0⟩ | exact ⟨yp, y0⟩ | exact ⟨zp, z0⟩)
          clear hK K hHeld2
          try simp only [Act.put, List.setIfInBounds_toArray, List.set_cons_zero, List.set_cons_succ]
          refine wpAnyH_take (i := 15) (oi := _) (v := ?_) rfl (by kernel_rfl) (by kernel_rfl) (by kernel_rfl) (fun _ _ _ h => h) (Or.inl ⟨by rfl, ?_⟩) (by assumption) ?_
          rotate_left
          · intro wS hSw; (try dsimp only at hSw); go_simp; (try with_reducible rfl)
          try simp only [Act.put, List.setIfInBounds_toArray, List.set_cons_zero, List.set_cons_succ]
          refine wpAnyH_take (i := 16) (oi := _) (v := ?_) rfl (by kernel_rfl) (by kernel_rfl) (by kernel_rfl) (fun _ _ _ h => h) (Or.inl ⟨by rfl, ?_⟩) (by assumption) ?_
          rotate_left
          · intro wS hSw; (try dsimp only at hSw); go_simp; (try with_reducible rfl)
          try simp only [Act.put, List.setIfInBounds_toArray, List.set_cons_zero, List.set_cons_succ]
          refine wpAnyH_take (i := 17) (oi := _) (v := ?_) rfl (by kernel_rfl) (by kernel_rfl) (by kernel_rfl) (fun _ _ _ h => h) (Or.inl ⟨by rfl, ?_⟩) (by assumption) ?_
          rotate_left
          · intro wS hSw; (try dsimp only at hSw); go_simp; (try with_reducible rfl)
          try simp only [Act.put, List.setIfInBounds_toArray, List.set_cons_zero, List.set_cons_succ]
          refine wpAnyH_ready (rs := [18]) (by kernel_rfl) (by simp) ?_
          refine AllReadyH.cons (o := _) rfl (fun K hK => ?_) AllReadyH.nil
          go_simp
          refine hK.out _ _ ?_ (fun hHeld4 => ?_)
          · (try dsimp only); (first | exact ⟨p0, x0⟩ | exact ⟨yp, y0⟩ | exact ⟨zp, z0⟩)
          clear hK K hHeld3
          try simp only [Act.put, List.setIfInBounds_toArray, List.set_cons_zero, List.set_cons_succ]
          refine wpAnyH_done (by kernel_rfl) ?_ _
          refine NoPanic.normal ?_
          have H12 : Hid (HB L F' g ((w9.drew.setRow gw nrow).setCell ⟨g, 1, none⟩ (.int .i64 ((T : Int) + (ws.length : Int)))) (.slice (some ⟨gw, off, none⟩) QW.length yc) (.slice a8 NN c8) (pst QW T ws ws.length) ((T : Int) + (ws.length : Int)) NN (up QE K ⟨(T : Int), ws.length, true⟩)) := H11.out
          have PB12 : Hid (PutBox w.heap.size g ((w9.drew.setRow gw nrow).setCell ⟨g, 1, none⟩ (.int .i64 ((T : Int) + (ws.length : Int)))) (.slice xa W.length xc) (.int .i64 t) (.slice za n zc) false) := ⟨PB11.out.p, PB11.out.d, PB11.out.w⟩
          have B12 : Hid (Below L w ((w9.drew.setRow gw nrow).setCell ⟨g, 1, none⟩ (.int .i64 ((T : Int) + (ws.length : Int))))) := below_setCell (B9.out.drew.trans ((setRow_win w9.drew gw nrow).below hLg (Nat.le_trans HL.out B9.out.size))) (by omega) _ _
          clear H11 PB11 B11 H10 PB10 B10 y0 y1 yf yp zp z0 x0 x1 p0 CP hsl
          generalize ((w9.drew.setRow gw nrow).setCell ⟨g, 1, none⟩ (.int .i64 ((T : Int) + (ws.length : Int)))) = w12 at *
          have d0 := PB12.out.d0
          have df := PB12.out.df
          go_wp2_with fail
          clear d0 df
          have hw13 := win_setCell w12 (w.heap.size + 1 + 1) 0 (.bool true)
          have PB13 : Hid (PutBox w.heap.size g (w12.setCell ⟨w.heap.size + 1 + 1, 0, none⟩ (.bool true)) (.slice xa W.length xc) (.int .i64 t) (.slice za n zc) true) := PB12.out.done true
          have H13 : Hid (HB L F g (w12.setCell ⟨w.heap.size + 1 + 1, 0, none⟩ (.bool true)) (.slice (some ⟨gw, off, none⟩) QW.length yc) (.slice a8 NN c8) (pst QW T ws ws.length) ((T : Int) + (ws.length : Int)) NN (up QE K ⟨(T : Int), ws.length, true⟩)) := (H12.out.other (FN.out _ (by omega) (by omega)) hw13).lessF FF.out
          have B13 : Hid (Below L w (w12.setCell ⟨w.heap.size + 1 + 1, 0, none⟩ (.bool true))) := below_setCell B12.out (by omega) _ _
          clear hw13
          generalize w12.setCell ⟨w.heap.size + 1 + 1, 0, none⟩ (.bool true) = w13 at *
          refine leaves_cons (f := 79) (args := #[.pointer (some ⟨w.heap.size + 1 + 1, 0, none⟩), .pointer (some ⟨w.heap.size + 1 + 1 + 1, 0, none⟩), .pointer (some ⟨w.heap.size, 0, none⟩)]) (by simp) (by simp [go_sem]) ?_
          refine (undo_done .returning _ PB13.out.d0).mono ?_
          rintro e u' w14 ⟨rfl, rfl, h14⟩
          subst h14
          have e0 := PB13.out.d0
          have eP : PI = (K : Int) := by rw [HPI.out, QV.out]; rfl
          simp [Leaves, settle, results, Try.results46, go_sem, e0]
          refine ⟨⟨eP.symm, QV.out⟩, fun _ => ?_, fun h => absurd h (by rw [QV.out]; decide), B13.out⟩
          rw [PWd.out, PT.out, PN.out, PE.out, ← HNN.out]
          exact ⟨_, _, _, _, _, _, H13.out⟩
        refine AllReadyH.cons (o := _) rfl (fun K hK => ?_) AllReadyH.nil
        go_simp
        refine hK.out _ _ ?_ (fun hHeld5 => ?_)
        · (try dsimp only); (first | exact ⟨p0, x0⟩ | exact ⟨yp, y0⟩ | exact ⟨zp, z0⟩)
        clear hK K hHeld0
        try simp only [Act.put, List.setIfInBounds_toArray, List.set_cons_zero, List.set_cons_succ]
        refine wpAnyH_take (i := 12) (oi := _) (v := ?_) rfl (by kernel_rfl) (by kernel_rfl) (by kernel_rfl) (fun _ _ _ h => h) (Or.inl ⟨by rfl, ?_⟩) (by assumption) ?_
        rotate_left
        · intro wS hSw; (try dsimp only at hSw); go_simp; (try with_reducible rfl)
        try simp only [Act.put, List.setIfInBounds_toArray, List.set_cons_zero, List.set_cons_succ]
        refine wpAnyH_ready (rs := [3, 14]) (by kernel_rfl) (by simp) ?_
        refine AllReadyH.cons (o := _) rfl (fun K hK => ?_) ?_
        · skip
          go_simp
          refine hK.out _ _ ?_ (fun hHeld6 => ?_)
          · (try dsimp only); (first | exact ⟨p0, x0⟩ | exact ⟨yp, y0⟩ | exact ⟨zp, z0⟩)
          clear hK K hHeld5
          try simp only [Act.put, List.setIfInBounds_toArray, List.set_cons_zero, List.set_cons_succ]
          refine wpAnyH_ready (rs := [14]) (by kernel_rfl) (by simp) ?_
          refine AllReadyH.cons (o := _) rfl (fun K hK => ?_) AllReadyH.nil
          (first | refine step_copyI (by rfl) (.tmp 74) (.tmp 75) 25 25 (by rfl) _ _ _ (by rfl) (by rfl) (CP.out w9.drew rfl _) ?_ | refine step_copyI (by rfl) (.tmp 74) (.tmp 75) 25 25 (by rfl) _ _ _ (by rfl) (by rfl) (CP.out w9 rfl _) ?_)
          refine hK.out _ _ ?_ (fun hHeld7 => ?_)
          · (try dsimp only); (first | exact ⟨p0, x0⟩ | exact ⟨yp, y0⟩ | exact ⟨zp, z0⟩)
          clear hK K hHeld6
          try simp only [Act.put, List.setIfInBounds_toArray, List.set_cons_zero, List.set_cons_succ]
          refine wpAnyH_take (i := 15) (oi := _) (v := ?_) rfl (by kernel_rfl) (by kernel_rfl) (by kernel_rfl) (fun _ _ _ h => h) (Or.inl ⟨by rfl, ?_⟩) (by assumption) ?_
          rotate_left
          · intro wS hSw; (try dsimp only at hSw); go_simp; (try with_reducible rfl)
          try simp only [Act.put, List.setIfInBounds_toArray, List.set_cons_zero, List.set_cons_succ]
          refine wpAnyH_take (i := 16) (oi := _) (v := ?_) rfl (by kernel_rfl) (by kernel_rfl) (by kernel_rfl) (fun _ _ _ h => h) (Or.inl ⟨by rfl, ?_⟩) (by assumption) ?_
          rotate_left
          · intro wS hSw; (try dsimp only at hSw); go_simp; (try with_reducible rfl)
          try simp only [Act.put, List.setIfInBounds_toArray, List.set_cons_zero, List.set_cons_succ]
          refine wpAnyH_take (i := 17) (oi := _) (v := ?_) rfl (by kernel_rfl) (by kernel_rfl) (by kernel_rfl) (fun _ _ _ h => h) (Or.inl ⟨by rfl, ?_⟩) (by assumption) ?_
          rotate_left
          · intro wS hSw; (try dsimp only at hSw); go_simp; (try with_reducible rfl)
          try simp only [Act.put, List.setIfInBounds_toArray, List.set_cons_zero, List.set_cons_succ]
          refine wpAnyH_ready (rs := [18]) (by kernel_rfl) (by simp) ?_
          refine AllReadyH.cons (o := _) rfl (fun K hK => ?_) AllReadyH.nil
          go_simp
          refine hK.out _ _ ?_ (fun hHeld8 => ?_)
          · (try dsimp only); (first | exact ⟨p0, x0⟩ | exact ⟨yp, y0⟩ | exact ⟨zp, z0⟩)
          clear hK K hHeld7
          try simp only [Act.put, List.setIfInBounds_toArray, List.set_cons_zero, List.set_cons_succ]
          refine wpAnyH_done (by kernel_rfl) ?_ _
          refine NoPanic.normal ?_
          have H12 : Hid (HB L F' g ((w9.drew.setRow gw nrow).setCell ⟨g, 1, none⟩ (.int .i64 ((T : Int) + (ws.length : Int)))) (.slice (some ⟨gw, off, none⟩) QW.length yc) (.slice a8 NN c8) (pst QW T ws ws.length) ((T : Int) + (ws.length : Int)) NN (up QE K ⟨(T : Int), ws.length, true⟩)) := H11.out
          have PB12 : Hid (PutBox w.heap.size g ((w9.drew.setRow gw nrow).setCell ⟨g, 1, none⟩ (.int .i64 ((T : Int) + (ws.length : Int)))) (.slice xa W.length xc) (.int .i64 t) (.slice za n zc) false) := ⟨PB11.out.p, PB11.out.d, PB11.out.w⟩
          have B12 : Hid (Below L w ((w9.drew.setRow gw nrow).setCell ⟨g, 1, none⟩ (.int .i64 ((T : Int) + (ws.length : Int))))) := below_setCell (B9.out.drew.trans ((setRow_win w9.drew gw nrow).below hLg (Nat.le_trans HL.out B9.out.size))) (by omega) _ _
          clear H11 PB11 B11 H10 PB10 B10 y0 y1 yf yp zp z0 x0 x1 p0 CP hsl
          generalize ((w9.drew.setRow gw nrow).setCell ⟨g, 1, none⟩ (.int .i64 ((T : Int) + (ws.length : Int)))) = w12 at *
          have d0 := PB12.out.d0
          have df := PB12.out.df
          go_wp2_with fail
          clear d0 df
          have hw13 := win_setCell w12 (w.heap.size + 1 + 1) 0 (.bool true)
          have PB13 : Hid (PutBox w.heap.size g (w12.setCell ⟨w.heap.size + 1 + 1, 0, none⟩ (.bool true)) (.slice xa W.length xc) (.int .i64 t) (.slice za n zc) true) := PB12.out.done true
          have H13 : Hid (HB L F g (w12.setCell ⟨w.heap.size + 1 + 1, 0, none⟩ (.bool true)) (.slice (some ⟨gw, off, none⟩) QW.length yc) (.slice a8 NN c8) (pst QW T ws ws.length) ((T : Int) + (ws.length : Int)) NN (up QE K ⟨(T : Int), ws.length, true⟩)) := (H12.out.other (FN.out _ (by omega) (by omega)) hw13).lessF FF.out
          have B13 : Hid (Below L w (w12.setCell ⟨w.heap.size + 1 + 1, 0, none⟩ (.bool true))) := below_setCell B12.out (by omega) _ _
          clear hw13
          generalize w12.setCell ⟨w.heap.size + 1 + 1, 0, none⟩ (.bool true) = w13 at *
          refine leaves_cons (f := 79) (args := #[.pointer (some ⟨w.heap.size + 1 + 1, 0, none⟩), .pointer (some ⟨w.heap.size + 1 + 1 + 1, 0, none⟩), .pointer (some ⟨w.heap.size, 0, none⟩)]) (by simp) (by simp [go_sem]) ?_
          refine (undo_done .returning _ PB13.out.d0).mono ?_
          rintro e u' w14 ⟨rfl, rfl, h14⟩
          subst h14
          have e0 := PB13.out.d0
          have eP : PI = (K : Int) := by rw [HPI.out, QV.out]; rfl
          simp [Leaves, settle, results, Try.results46, go_sem, e0]
          refine ⟨⟨eP.symm, QV.out⟩, fun _ => ?_, fun h => absurd h (by rw [QV.out]; decide), B13.out⟩
          rw [PWd.out, PT.out, PN.out, PE.out, ← HNN.out]
          exact ⟨_, _, _, _, _, _, H13.out⟩
        refine AllReadyH.cons (o := _) rfl (fun K hK => ?_) AllReadyH.nil
        (first | refine step_copyI (by rfl) (.tmp 74) (.tmp 75) 25 25 (by rfl) _ _ _ (by rfl) (by rfl) (CP.out w9.drew rfl _) ?_ | refine step_copyI (by rfl) (.tmp 74) (.tmp 75) 25 25 (by rfl) _ _ _ (by rfl) (by rfl) (CP.out w9 rfl _) ?_)
        refine hK.out _ _ ?_ (fun hHeld9 => ?_)
        · (try dsimp only); (first | exact ⟨p0, x0⟩ | exact ⟨yp, y0⟩ | exact ⟨zp, z0⟩)
        clear hK K hHeld5
        try simp only [Act.put, List.setIfInBounds_toArray, List.set_cons_zero, List.set_cons_succ]
        refine wpAnyH_ready (rs := [3]) (by kernel_rfl) (by simp) ?_
        refine AllReadyH.cons (o := _) rfl (fun K hK => ?_) AllReadyH.nil
        go_simp
        refine hK.out _ _ ?_ (fun hHeld10 => ?_)
        · (try dsimp only); (first | exact ⟨p0, x0⟩ | exact ⟨yp, y0⟩ | exact ⟨zp, z0⟩)
        clear hK K hHeld9
        try simp only [Act.put, List.setIfInBounds_toArray, List.set_cons_zero, List.set_cons_succ]
        refine wpAnyH_take (i := 15) (oi := _) (v := ?_) rfl (by kernel_rfl) (by kernel_rfl) (by kernel_rfl) (fun _ _ _ h => h) (Or.inl ⟨by rfl, ?_⟩) (by assumption) ?_
        rotate_left
        · intro wS hSw; (try dsimp only at hSw); go_simp; (try with_reducible rfl)
        try simp only [Act.put, List.setIfInBounds_toArray, List.set_cons_zero, List.set_cons_succ]
        refine wpAnyH_take (i := 16) (oi := _) (v := ?_) rfl (by kernel_rfl) (by kernel_rfl) (by kernel_rfl) (fun _ _ _ h => h) (Or.inl ⟨by rfl, ?_⟩) (by assumption) ?_
        rotate_left
        · intro wS hSw; (try dsimp only at hSw); go_simp; (try with_reducible rfl)
        try simp only [Act.put, List.setIfInBounds_toArray, List.set_cons_zero, List.set_cons_succ]
        refine wpAnyH_take (i := 17) (oi := _) (v := ?_) rfl (by kernel_rfl) (by kernel_rfl) (by kernel_rfl) (fun _ _ _ h => h) (Or.inl ⟨by rfl, ?_⟩) (by assumption) ?_
        rotate_left
        · intro wS hSw; (try dsimp only at hSw); go_simp; (try with_reducible rfl)
        try simp only [Act.put, List.setIfInBounds_toArray, List.set_cons_zero, List.set_cons_succ]
        refine wpAnyH_ready (rs := [18]) (by kernel_rfl) (by simp) ?_
        refine AllReadyH.cons (o := _) rfl (fun K hK => ?_) AllReadyH.nil
        go_simp
        refine hK.out _ _ ?_ (fun hHeld11 => ?_)
        · (try dsimp only); (first | exact ⟨p0, x0⟩ | exact ⟨yp, y0⟩ | exact ⟨zp, z0⟩)
        clear hK K hHeld10
        try simp only [Act.put, List.setIfInBounds_toArray, List.set_cons_zero, List.set_cons_succ]
        refine wpAnyH_done (by kernel_rfl) ?_ _
        refine NoPanic.normal ?_
        have H12 : Hid (HB L F' g ((w9.drew.setRow gw nrow).setCell ⟨g, 1, none⟩ (.int .i64 ((T : Int) + (ws.length : Int)))) (.slice (some ⟨gw, off, none⟩) QW.length yc) (.slice a8 NN c8) (pst QW T ws ws.length) ((T : Int) + (ws.length : Int)) NN (up QE K ⟨(T : Int), ws.length, true⟩)) := H11.out
        have PB12 : Hid (PutBox w.heap.size g ((w9.drew.setRow gw nrow).setCell ⟨g, 1, none⟩ (.int .i64 ((T : Int) + (ws.length : Int)))) (.slice xa W.length xc) (.int .i64 t) (.slice za n zc) false) := ⟨PB11.out.p, PB11.out.d, PB11.out.w⟩
        have B12 : Hid (Below L w ((w9.drew.setRow gw nrow).setCell ⟨g, 1, none⟩ (.int .i64 ((T : Int) + (ws.length : Int))))) := below_setCell (B9.out.drew.trans ((setRow_win w9.drew gw nrow).below hLg (Nat.le_trans HL.out B9.out.size))) (by omega) _ _
        clear H11 PB11 B11 H10 PB10 B10 y0 y1 yf yp zp z0 x0 x1 p0 CP hsl
        generalize ((w9.drew.setRow gw nrow).setCell ⟨g, 1, none⟩ (.int .i64 ((T : Int) + (ws.length : Int)))) = w12 at *
        have d0 := PB12.out.d0
        have df := PB12.out.df
        go_wp2_with fail
        clear d0 df
        have hw13 := win_setCell w12 (w.heap.size + 1 + 1) 0 (.bool true)
        have PB13 : Hid (PutBox w.heap.size g (w12.setCell ⟨w.heap.size + 1 + 1, 0, none⟩ (.bool true)) (.slice xa W.length xc) (.int .i64 t) (.slice za n zc) true) := PB12.out.done true
        have H13 : Hid (HB L F g (w12.setCell ⟨w.heap.size + 1 + 1, 0, none⟩ (.bool true)) (.slice (some ⟨gw, off, none⟩) QW.length yc) (.slice a8 NN c8) (pst QW T ws ws.length) ((T : Int) + (ws.length : Int)) NN (up QE K ⟨(T : Int), ws.length, true⟩)) := (H12.out.other (FN.out _ (by omega) (by omega)) hw13).lessF FF.out
        have B13 : Hid (Below L w (w12.setCell ⟨w.heap.size + 1 + 1, 0, none⟩ (.bool true))) := below_setCell B12.out (by omega) _ _
        clear hw13
        generalize w12.setCell ⟨w.heap.size + 1 + 1, 0, none⟩ (.bool true) = w13 at *
        refine leaves_cons (f := 79) (args := #[.pointer (some ⟨w.heap.size + 1 + 1, 0, none⟩), .pointer (some ⟨w.heap.size + 1 + 1 + 1, 0, none⟩), .pointer (some ⟨w.heap.size, 0, none⟩)]) (by simp) (by simp [go_sem]) ?_
        refine (undo_done .returning _ PB13.out.d0).mono ?_
        rintro e u' w14 ⟨rfl, rfl, h14⟩
        subst h14
        have e0 := PB13.out.d0
        have eP : PI = (K : Int) := by rw [HPI.out, QV.out]; rfl
        simp [Leaves, settle, results, Try.results46, go_sem, e0]
        refine ⟨⟨eP.symm, QV.out⟩, fun _ => ?_, fun h => absurd h (by rw [QV.out]; decide), B13.out⟩
        rw [PWd.out, PT.out, PN.out, PE.out, ← HNN.out]
        exact ⟨_, _, _, _, _, _, H13.out⟩
  · have QV : Hid (putB W t n E ws = false) := by show _ = _; rw [PB.out]; first | (simp; omega) | (simp; intros; omega)
    have d0 := PB7.out.d0
    have df := PB7.out.df
    go_wp2_with fail
    clear d0 df
    have PB8 : Hid (PutBox w.heap.size g (w7.setCell ⟨w.heap.size + 1 + 1, 0, none⟩ (.bool false)) (.slice xa W.length xc) (.int .i64 t) (.slice za n zc) false) := PB7.out.done false
    have hw8 := win_setCell w7 (w.heap.size + 1 + 1) 0 (.bool false)
    have X8 : Hid (Box3 (w7.setCell ⟨w.heap.size + 1 + 1, 0, none⟩ (.bool false)) g (.slice ya QW.length yc) (.int .i64 QT) (.slice ua n uc) 28) := H7.out.box.win hw8 (.inl (by omega))
    have O8 : Hid (HXE (fun k => F k ∨ k = g) L w.heap.size (w7.setCell ⟨w.heap.size + 1 + 1, 0, none⟩ (.bool false)) (.agg #[.slice xa W.length xc, .int .i64 t, .slice za n zc]) W t n E) := O7.out.far hw8 (by omega)
    have B8 : Hid (Below L w (w7.setCell ⟨w.heap.size + 1 + 1, 0, none⟩ (.bool false))) := below_setCell B7.out (by omega) _ _
    clear hw8
    generalize w7.setCell ⟨w.heap.size + 1 + 1, 0, none⟩ (.bool false) = w8 at *
    refine leaves_cons (f := 79) (args := #[.pointer (some ⟨w.heap.size + 1 + 1, 0, none⟩), .pointer (some ⟨w.heap.size + 1 + 1 + 1, 0, none⟩), .pointer (some ⟨w.heap.size, 0, none⟩)]) (by simp) (by simp [go_sem]) ?_
    refine (undo_back (x := undef) (y := undef) (z := undef) .returning _ PB8.out.d0 PB8.out.w PB8.out.p0 X8.out).mono ?_
    rintro e u' w9 ⟨rfl, rfl, h9⟩
    have hwin : Win g (g + 1) w8 w9 := by rw [h9]; exact ((win_setCell _ _ _ _).trans (win_setCell _ _ _ _)).trans (win_setCell _ _ _ _)
    have hs9 := hwin.size
    have hs8 := B8.out.size
    have X9 : Box3 w9 g (.slice xa W.length xc) (.int .i64 t) (.slice za n zc) 28 := by rw [h9]; exact ((X8.out.set0 _).set1 _).set2 _
    have H9 : Hid (HB L F g w9 (.slice xa W.length xc) (.slice za n zc) W t n E) := (O8.out.win (.inl (.inr rfl)) hwin).lay X9 (by omega) (by omega) fun k hk => by have := H.out.free k hk; omega
    have B9 : Hid (Below L w w9) := B8.out.trans (hwin.below (by omega) (by omega))
    have PB9 : Hid (PutBox w.heap.size g w9 (.slice xa W.length xc) (.int .i64 t) (.slice za n zc) false) := PB8.out.stay fun k h1 h2 => hwin.block k (by have := PB8.out.w.lt; omega) (by omega)
    have e0 := PB9.out.d0
    have eP : PI = -1 := by rw [HPI.out, QV.out]; rfl
    clear h9 hwin X9
    simp [Leaves, settle, results, Try.results46, go_sem, e0]
    refine ⟨⟨eP.symm, QV.out⟩, fun h => absurd h (by rw [QV.out]; decide), fun _ => H9.out, B9.out⟩
end Go.Proofs.Ytmmjidhpmbcoiaa
namespace Go.Proofs.Ytmmjidhpmbcoiaa
open Go.RowKit
set_option linter.unusedVariables false
set_option linter.unusedSimpArgs false
theorem put_any (hS : SortsBy) (hS0 : SortsNone) {L g : Nat} {w : World} {xa za : Option Addr} {xc zc : Nat} {W : List Int} {t : Int} {n : Nat} {E : Nat → Cel} {u : Value} {s d : List Int} (h : HB L (fun _ => False) g w (.slice xa W.length xc) (.slice za n zc) W t n E) (hc : ZCap w (.slice za n zc) n) (hk : hOkB W.length t n E = true) (hL : L ≤ w.heap.size) (ha : ArrI w u s d) (hd : d.length ≤ 1048576) :
    Calls Try.prog 46 #[.pointer (some ⟨g, 0, none⟩), u] w fun e w' => ∃ x z, e = .returned (.tuple #[.int .i64 (outI W t n E s d), .bool (outB W t n E s d)]) ∧ HB L (fun _ => False) g w' x z (outW W t n E s d) (outT W t n E s d) (outN W t n E s d) (outE W t n E s d) ∧ Below L w w' := by
  by_cases aa : arrOk s d = true
  · refine (put_right hS hS0 h hc hk hL ha aa).mono ?_
    rintro e w' ⟨rfl, h1, h2, hb⟩
    by_cases pp : putB W t n E (wsA s d) = true
    · obtain ⟨o1, o2, o3, o4, o5, o6⟩ := out_put (s := s) (d := d) hk aa pp
      obtain ⟨_, _, _, _, _, _, _, h3, _⟩ := h1 pp
      rw [o1, o2, o3, o4, o5, o6, if_pos pp, pp]
      exact ⟨_, _, rfl, h3, hb⟩
    · have pf : putB W t n E (wsA s d) = false := by simpa using pp
      obtain ⟨o1, o2, o3, o4, o5, o6⟩ := out_same (s := s) (d := d) hk (by rw [pf]; simp)
      rw [o1, o2, o3, o4, o5, o6, if_neg pp, pf]
      exact ⟨_, _, rfl, h2 pf, hb⟩
  · have af : arrOk s d = false := by simpa using aa
    refine (put_wrong h hL ha hd af).mono ?_
    rintro e w' ⟨rfl, h1, hb⟩
    obtain ⟨o1, o2, o3, o4, o5, o6⟩ := out_same (s := s) (d := d) hk (by rw [af]; rfl)
    rw [o1, o2, o3, o4, o5, o6]
    exact ⟨_, _, rfl, h1, hb⟩
theorem HX.stored {B C A g : Nat} {w : World} {v x y z : Value} {W : List Int} {t : Int} {n : Nat} {E : Nat → Cel} (h : HX B C w v W t n E) (hg : g < B) (hA : A ≤ B) (hC : C ≤ w.heap.size) : HX A (((w.setCell ⟨g, 0, none⟩ x).setCell ⟨g, 1, none⟩ y).setCell ⟨g, 2, none⟩ z).heap.size (((w.setCell ⟨g, 0, none⟩ x).setCell ⟨g, 1, none⟩ y).setCell ⟨g, 2, none⟩ z) v W t n E := by
  have hw : Win g (g + 1) w (((w.setCell ⟨g, 0, none⟩ x).setCell ⟨g, 1, none⟩ y).setCell ⟨g, 2, none⟩ z) := ((win_setCell _ _ _ _).trans (win_setCell _ _ _ _)).trans (win_setCell _ _ _ _)
  exact (h.win hw (.inr hg)).mono hA (Nat.le_trans hC hw.size)
theorem below_set3 {B g : Nat} {w w' : World} {x y z : Value} (h : Below B w w') (hg : B ≤ g) : Below B w (((w'.setCell ⟨g, 0, none⟩ x).setCell ⟨g, 1, none⟩ y).setCell ⟨g, 2, none⟩ z) :=
  below_setCell (below_setCell (below_setCell h hg _ _) hg _ _) hg _ _
theorem outB_ok {W : List Int} {t : Int} {n : Nat} {E : Nat → Cel} {s d : List Int} (h : outB W t n E s d = true) : hOkB W.length t n E = true := by
  unfold outB at h
  exact (Bool.and_eq_true _ _ ▸ h).1
theorem outW_len {W : List Int} {t : Int} {n : Nat} {E : Nat → Cel} {s d : List Int} (h : W.length ≤ 1048576) : (outW W t n E s d).length ≤ 1048576 := by
  unfold outW
  by_cases hb : outB W t n E s d = true
  · rw [if_pos hb]
    unfold putW
    rw [pst_len, (q_bd (ws := wsA s d) (outB_ok hb)).1]
    exact h
  · rw [if_neg hb]
    split
    · exact h
    · simp
theorem outN_le {W : List Int} {t : Int} {n : Nat} {E : Nat → Cel} {s d : List Int} (h : n ≤ 1048576) : outN W t n E s d ≤ 1048576 := by
  unfold outN
  by_cases hb : outB W t n E s d = true
  · rw [if_pos hb]
    have := (q_bd (ws := wsA s d) (outB_ok hb)).2.2.2.2
    unfold putN
    split <;> omega
  · rw [if_neg hb]
    split
    · exact h
    · omega
set_option maxRecDepth 20000 in
set_option maxHeartbeats 16000000 in
/-- The program's HeapPut. -/
theorem heapPut_impl (hS : SortsBy) (hS0 : SortsNone) {w : World} {v u : Value} {W : List Int} {t : Int} {n : Nat} {E : Nat → Cel} {s d : List Int} (h : HI w v W t n E) (he : (∀ i, in64 (E i).f ∧ in64 (E i).l) ∧ in64 t) (hW : W.length ≤ 1048576) (hn : n ≤ 1048576) (ha : ArrI w u s d) (hd : d.length ≤ 1048576) :
    Calls Try.prog 14 #[v, u] w fun e w' => ∃ v', e = .returned (.tuple #[v', .int .i64 (outI W t n E s d), .bool (outB W t n E s d)]) ∧ HX w.heap.size w'.heap.size w' v' (outW W t n E s d) (outT W t n E s d) (outN W t n E s d) (outE W t n E s d) ∧ Below w.heap.size w w' := by
  have CK : Hid (∀ W', Below w.heap.size w W' → Calls Try.prog 16 #[v] W' fun e w' => e = .returned (.bool (hOkB W.length t n E)) ∧ Below W'.heap.size W' w') := fun W' hb => heapOk_impl hS hS0 (h.keep hb) he hW hn
  have CC : Hid (∀ W', Below w.heap.size w W' → Calls Try.prog 45 #[v] W' fun e w' => ∃ v', e = .returned v' ∧ HP W'.heap.size w'.heap.size w' v' W t n E ∧ CapH w' v' n ∧ Below W'.heap.size W' w') := fun W' hb => heapCopy_impl2 (h.keep hb) hW hn
  have AI : Hid (ArrI w u s d) := ha
  have HS : Hid (SortsBy ∧ SortsNone) := ⟨hS, hS0⟩
  have HD : Hid (d.length ≤ 1048576) := hd
  obtain ⟨wa, wc_, ca, cc, rfl, h1, h2, h3, h4⟩ := h
  obtain ⟨sa, sc, da, dc, rfl, a1, a2, a3, a4⟩ := ha
  have PA : Hid (∀ (L g : Nat) (w5 : World) (xa za : Option Addr) (xc zc : Nat), hOkB W.length t n E = true → HB L (fun _ => False) g w5 (.slice xa W.length xc) (.slice za n zc) W t n E → ZCap w5 (.slice za n zc) n → L ≤ w5.heap.size → Below w.heap.size w w5 → Calls Try.prog 46 #[.pointer (some ⟨g, 0, none⟩), .agg #[.slice sa s.length sc, .slice da d.length dc]] w5 fun e w' => ∃ x z, e = .returned (.tuple #[.int .i64 (outI W t n E s d), .bool (outB W t n E s d)]) ∧ HB L (fun _ => False) g w' x z (outW W t n E s d) (outT W t n E s d) (outN W t n E s d) (outE W t n E s d) ∧ Below L w5 w') :=
    fun L g w5 xa za xc zc kk h hz hl hb => put_any HS.out.1 HS.out.2 h hz kk hl (AI.out.keep hb) HD.out
  have OB0 : Hid (hOkB W.length t n E = false → outB W t n E s d = false ∧ outI W t n E s d = -1 ∧ outW W t n E s d = [] ∧ outT W t n E s d = 0 ∧ outN W t n E s d = 0 ∧ outE W t n E s d = E) := out_bad
  generalize outI W t n E s d = OI at *
  generalize outB W t n E s d = OB at *
  generalize outW W t n E s d = OW at *
  generalize outT W t n E s d = OT at *
  generalize outN W t n E s d = ON at *
  generalize outE W t n E s d = OE at *
  clear h1 h2 h3 h4 he a1 a2 a3 a4 hS hS0 hd
  go_enter Try.func14, Try.ntmps14
  go_wp2_with fail
  generalize hV : ((w.alloc (.cells #[.slice wa W.length wc_, .int .i64 t, .slice ca n cc] 28)).alloc (.cells #[.slice sa s.length sc, .slice da d.length dc] 32)).alloc (.cells #[.slice none 0 0, .int .i64 0, .slice none 0 0] 28) = w1
  have B1 : Hid (Below w.heap.size w w1) := by rw [← hV]; exact bAlloc (bAlloc (bAlloc (Below.refl _ _) _) _) _
  have X1 : Hid (Box3 w1 w.heap.size (.slice wa W.length wc_) (.int .i64 t) (.slice ca n cc) 28) := by rw [← hV]; exact ((box3_new _ _ _ _ _).alloc _).alloc _
  have A1 : Hid (Box w1 (w.heap.size + 1) (.slice sa s.length sc) (.slice da d.length dc) 32) := by
    have := box_new (w.alloc (.cells #[.slice wa W.length wc_, .int .i64 t, .slice ca n cc] 28)) (.slice sa s.length sc) (.slice da d.length dc) 32
    show Box _ _ _ _ _
    rw [← hV]
    exact (Box.keep (by simpa using this) (bAlloc (Below.refl _ _) _))
  have Y1 : Hid (Box3 w1 (w.heap.size + 1 + 1) (.slice none 0 0) (.int .i64 0) (.slice none 0 0) 28) := by
    have := box3_new ((w.alloc (.cells #[.slice wa W.length wc_, .int .i64 t, .slice ca n cc] 28)).alloc (.cells #[.slice sa s.length sc, .slice da d.length dc] 32)) (.slice none 0 0) (.int .i64 0) (.slice none 0 0) 28
    show Box3 _ _ _ _ _ _
    rw [← hV]; simpa using this
  clear hV
  refine (CK.out _ B1.out).mono ?_
  rintro r w2 ⟨rfl, hb⟩
  have B2 : Hid (Below w.heap.size w w2) := bTrans B1.out hb
  have X2 : Hid (Box3 w2 w.heap.size (.slice wa W.length wc_) (.int .i64 t) (.slice ca n cc) 28) := X1.out.keep hb
  have A2 : Hid (Box w2 (w.heap.size + 1) (.slice sa s.length sc) (.slice da d.length dc) 32) := A1.out.keep hb
  have Y2 : Hid (Box3 w2 (w.heap.size + 1 + 1) (.slice none 0 0) (.int .i64 0) (.slice none 0 0) 28) := Y1.out.keep hb
  clear hb B1 X1 A1 Y1
  by_cases kk : hOkB W.length t n E = true
  case neg =>
    have e1 : hOkB W.length t n E = false := by simpa using kk
    rw [e1]
    obtain ⟨o1, o2, o3, o4, o5, o6⟩ := OB0.out e1
    subst o1 o2 o3 o4 o5
    have r0 := Y2.out.c0
    have r1 := Y2.out.c1
    have r2 := Y2.out.c2
    have f0 := Y2.out.free 0
    have f1 := Y2.out.free 1
    have f2 := Y2.out.free 2
    go_wp2
    clear r0 r1 r2 f0 f1 f2
    generalize hZ : ((w2.setCell ⟨w.heap.size + 1 + 1, 0, none⟩ (.slice none 0 0)).setCell ⟨w.heap.size + 1 + 1, 1, none⟩ (.int .i64 0)).setCell ⟨w.heap.size + 1 + 1, 2, none⟩ (.slice none 0 0) = wz
    have YZ : Box3 wz (w.heap.size + 1 + 1) (.slice none 0 0) (.int .i64 0) (.slice none 0 0) 28 := by rw [← hZ]; exact ((Y2.out.set0 _).set1 _).set2 _
    have BZ : Below w.heap.size w wz := by rw [← hZ]; exact below_setCell (below_setCell (below_setCell B2.out (by omega) _ _) (by omega) _ _) (by omega) _ _
    have v0 := YZ.c0
    have v1 := YZ.c1
    have v2 := YZ.c2
    refine bodyPost_ret (v := .tuple #[.agg #[(.slice none 0 0), .int .i64 0, (.slice none 0 0)], .int .i64 (-1), .bool false]) (by simp [results, Try.results14, go_sem, v0, v1, v2]) rfl ?_
    exact ⟨_, rfl, (HP.zero _ _ BZ.size _ _).hx, BZ⟩
  case pos =>
  have x0 := X2.out.c0
  have x1 := X2.out.c1
  have x2 := X2.out.c2
  rw [kk]
  go_wp2_with fail
  refine (CC.out _ B2.out).mono ?_
  rintro r w4 ⟨v', rfl, hP, hcap, hb⟩
  have L2 := Y2.out.lt
  obtain ⟨L, hLe, hP⟩ := ex_eq hP
  have B4 : Hid (Below w.heap.size w w4) := bTrans B2.out hb
  have A4 : Hid (Box w4 (w.heap.size + 1) (.slice sa s.length sc) (.slice da d.length dc) 32) := A2.out.keep hb
  have Y4 : Hid (Box3 w4 (w.heap.size + 1 + 1) (.slice none 0 0) (.int .i64 0) (.slice none 0 0) 28) := Y2.out.keep hb
  have LL : Hid (w.heap.size + 1 + 1 < L ∧ L ≤ w4.heap.size) := ⟨by omega, by rw [hLe]; exact hb.size⟩
  obtain ⟨xa, xc, za, zc, rfl⟩ := hP.form
  have P4 : Hid (HX L w4.heap.size w4 (.agg #[.slice xa W.length xc, .int .i64 t, .slice za n zc]) W t n E) := hP.hx
  have Z4 : Hid (ZCap w4 (.slice za n zc) n) := HX.zcap (B := 0) (C := 0) (W := W) (t := t) (E := E) hcap
  clear hb hP hcap hLe x0 x1 x2 B2 X2 A2 Y2
  have a0 : ∀ O : Obj, (w4.alloc O).cell? ⟨w.heap.size + 1, 0, none⟩ = some (.slice sa s.length sc) := fun O => (A4.out.keep (bAlloc (Below.refl _ _) O)).c0
  have a1 : ∀ O : Obj, (w4.alloc O).cell? ⟨w.heap.size + 1, 1, none⟩ = some (.slice da d.length dc) := fun O => (A4.out.keep (bAlloc (Below.refl _ _) O)).c1
  go_wp2_with fail
  generalize hV : w4.alloc (.cells #[.slice xa W.length xc, .int .i64 t, .slice za n zc] 28) = w5
  have b45 : Below w4.heap.size w4 w5 := by rw [← hV]; exact bAlloc (Below.refl _ _) _
  have X5 : Box3 w5 w4.heap.size (.slice xa W.length xc) (.int .i64 t) (.slice za n zc) 28 := by rw [← hV]; exact box3_new _ _ _ _ _
  have s45 : w4.heap.size ≤ w5.heap.size := b45.size
  have H5 : Hid (HB L (fun _ => False) w4.heap.size w5 (.slice xa W.length xc) (.slice za n zc) W t n E) := HB.lay (P4.out.keep b45) X5 s45 (.inr (Nat.le_refl _)) ⟨LL.out.2, Nat.le_refl _⟩ fun k hk => hk.elim
  have B5 : Hid (Below w.heap.size w w5) := bTrans B4.out b45
  have Y5 : Hid (Box3 w5 (w.heap.size + 1 + 1) (.slice none 0 0) (.int .i64 0) (.slice none 0 0) 28) := Y4.out.keep b45
  have CP := PA.out L w4.heap.size w5 xa za xc zc kk H5.out (Z4.out.keep b45) (Nat.le_trans LL.out.2 s45) B5.out
  clear hV b45 X5 a0 a1 P4 Z4 H5 B4 A4 Y4
  refine CP.mono ?_
  rintro r w6 ⟨x, z, rfl, hH, hb⟩
  obtain ⟨ya, yc, ua, uc, rfl, rfl⟩ := hH.form
  have X6 : Hid (HX L w6.heap.size w6 (.agg #[.slice ya OW.length yc, .int .i64 OT, .slice ua ON uc]) OW OT ON OE) := hH.hx
  have F6 := hH.box
  have hb6 : Below w.heap.size w5 w6 := hb.mono (by have := LL.out; omega)
  have B6 : Hid (Below w.heap.size w w6) := B5.out.trans hb6
  have Y6 : Hid (Box3 w6 (w.heap.size + 1 + 1) (.slice none 0 0) (.int .i64 0) (.slice none 0 0) 28) := by
    show w6.heap[_]? = _
    rw [hb.block _ LL.out.1]
    exact Y5.out
  clear CP hb hb6
  have q0 := F6.c0
  have q1 := F6.c1
  have q2 := F6.c2
  clear F6 hH
  have r0 := Y6.out.c0
  have r1 := Y6.out.c1
  have r2 := Y6.out.c2
  have f0 := Y6.out.free 0
  have f1 := Y6.out.free 1
  have f2 := Y6.out.free 2
  go_wp2
  clear r0 r1 r2 f0 f1 f2 q0 q1 q2
  generalize hZ : ((w6.setCell ⟨w.heap.size + 1 + 1, 0, none⟩ (.slice ya OW.length yc)).setCell ⟨w.heap.size + 1 + 1, 1, none⟩ (.int .i64 OT)).setCell ⟨w.heap.size + 1 + 1, 2, none⟩ (.slice ua ON uc) = wz
  have YZ : Box3 wz (w.heap.size + 1 + 1) (.slice ya OW.length yc) (.int .i64 OT) (.slice ua ON uc) 28 := by rw [← hZ]; exact ((Y6.out.set0 _).set1 _).set2 _
  have WZ : Win (w.heap.size + 1 + 1) (w.heap.size + 1 + 1 + 1) w6 wz := by rw [← hZ]; exact ((win_setCell _ _ _ _).trans (win_setCell _ _ _ _)).trans (win_setCell _ _ _ _)
  have BZ : Below w.heap.size w wz := by rw [← hZ]; exact below_setCell (below_setCell (below_setCell B6.out (by omega) _ _) (by omega) _ _) (by omega) _ _
  have v0 := YZ.c0
  have v1 := YZ.c1
  have v2 := YZ.c2
  have ll := LL.out
  refine bodyPost_ret (v := .tuple #[.agg #[.slice ya OW.length yc, .int .i64 OT, .slice ua ON uc], .int .i64 OI, .bool OB]) (by simp [results, Try.results14, go_sem, v0, v1, v2]) rfl ?_
  exact ⟨_, rfl, (X6.out.win WZ (.inr (by omega))).mono (by omega) WZ.size, BZ⟩
end Go.Proofs.Ytmmjidhpmbcoiaa
namespace Go.Proofs.Ytmmjidhpmbcoiaa
open Go.RowKit
set_option linter.unusedVariables false
set_option linter.unusedSimpArgs false
/-- A list of numbers up to one. -/
theorem ints_uptoH {w : World} {a : Option Addr} {l : List Int} {c M : Nat} (h : Ints w a l) (hc : l.length ≤ c) (hM : M ≤ l.length) :
    ∃ a' c', (∀ W, (Instr.slice 25 (.slice a l.length c) none (some (.int .i64 (M : Int))) none).run Try.prog W = .ok (.slice a' M c') W) ∧ M ≤ c' ∧ Ints w a' (l.take M) := by
  have hrun : ∀ W, (Instr.slice 25 (.slice a l.length c) none (some (.int .i64 (M : Int))) none).run Try.prog W = .ok (sliced a 0 M c 1) W := by
    intro W
    have hs : (sizeOf 3).run Try.prog W = .ok 1 W := by kernel_rfl
    have he : Try.prog.elem 25 = 3 := by kernel_rfl
    rw [run_slice_h (P := Try.prog) (w := W) 25 a l.length c (by rw [he]; exact Try.underlying25) .i64 (M : Int) (by omega) (by omega), he, hs]
    simp [Result.andThen]
  refine ⟨_, _, hrun, by omega, ?_⟩
  by_cases h0 : M = 0
  · subst h0; exact .inl (by simp)
  · obtain ⟨b, o, rfl, _, _⟩ := h.at (k := 0) (by omega)
    have := ints_cut (m := 0) (n := M) h (by omega)
    have e : (if c = 0 then (some ⟨b, o, none⟩ : Option Addr) else (some (⟨b, o, none⟩ : Addr)).map (·.add (0 * 1))) = some ⟨b, o, none⟩ := by
      split
      · rfl
      · simp [Addr.add]
    rw [e]
    simpa using this
/-- A list of numbers from one on. -/
theorem ints_fromC {w : World} {a : Option Addr} {l : List Int} {c M : Nat} (h : Ints w a l) (hc : l.length ≤ c) (hM : M ≤ l.length) :
    ∃ a' c', (∀ W, (Instr.slice 25 (.slice a l.length c) (some (.int .i64 (M : Int))) none none).run Try.prog W = .ok (.slice a' (l.drop M).length c') W) ∧ (l.drop M).length ≤ c' ∧ Ints w a' (l.drop M) := by
  have hrun : ∀ W, (Instr.slice 25 (.slice a l.length c) (some (.int .i64 (M : Int))) none none).run Try.prog W = .ok (sliced a M l.length c 1) W := by
    intro W
    have hs : (sizeOf 3).run Try.prog W = .ok 1 W := by kernel_rfl
    have he : Try.prog.elem 25 = 3 := by kernel_rfl
    rw [run_slice_l (P := Try.prog) (w := W) 25 a l.length c (by rw [he]; exact Try.underlying25) .i64 (M : Int) (by omega) (by omega), he, hs]
    simp [Result.andThen]
  rw [show (l.drop M).length = l.length - M from by simp]
  refine ⟨_, _, hrun, by omega, ?_⟩
  by_cases h0 : l.length - M = 0
  · exact .inl (List.eq_nil_of_length_eq_zero (by simpa using h0))
  · obtain ⟨b, o, rfl, _, _⟩ := h.at (k := 0) (by omega)
    have := ints_cut (m := M) (n := l.length - M) h (by omega)
    rw [if_neg (by omega)]
    have e2 : (l.drop M).take (l.length - M) = l.drop M := List.take_of_length_le (by simp)
    rw [e2] at this
    by_cases hM0 : M = 0 <;> simpa [Addr.add, hM0] using this
/-- What words are as an array. -/
def aoS (ws : List Int) : List Int := ((arrOf ws).getD ([], [])).1
def aoD (ws : List Int) : List Int := ((arrOf ws).getD ([], [])).2
def aoB (ws : List Int) : Bool := (arrOf ws).isSome
set_option maxRecDepth 20000 in
set_option maxHeartbeats 8000000 in
theorem arrayOfWords_impl {w : World} {a : Option Addr} {c : Nat} {ws : List Int} (h : Ints w a ws) (hc : ws.length ≤ c) (h0 : 0 < ws.length) (hl : ws.length ≤ 1048576) :
    Calls Try.prog 96 #[.slice a ws.length c] w fun e w' => ∃ v', e = .returned (.tuple #[v', .bool (aoB ws)]) ∧ Arr w.heap.size w'.heap.size w' v' (aoS ws) (aoD ws) ∧ Below w.heap.size w w' := by
  obtain ⟨b1, o1, rfl, hb1, q0⟩ := h.at (k := 0) h0
  rw [Nat.add_zero] at q0
  have AO : Hid (arrOf ws = if 0 ≤ ws.getD 0 0 ∧ ws.getD 0 0 ≤ (ws.length : Int) - 1 then
    (if arrOk ((ws.drop 1).take (ws.getD 0 0).toNat) (ws.drop (1 + (ws.getD 0 0).toNat)) = true then some ((ws.drop 1).take (ws.getD 0 0).toNat, ws.drop (1 + (ws.getD 0 0).toNat)) else none) else none) := rfl
  generalize hr : ws.getD 0 0 = r at *
  obtain ⟨a2, c2, hs2, hc2, i2⟩ := ints_fromC (M := 1) h hc (by omega)
  have q1 : ∀ ob : Obj, (w.alloc ob).cell? ⟨b1, o1, none⟩ = some (.int .i64 r) := fun ob => ((bAlloc (Below.refl w.heap.size w) ob).cell (p := ⟨b1, o1, none⟩) hb1).trans q0
  have L1 : (0 : Int) < (ws.length : Int) := by omega
  have g2 : ∀ W, (Instr.slice 25 (.slice (some ⟨b1, o1, none⟩) ws.length c) (some (.int .i64 1)) none none).run Try.prog W = .ok (.slice a2 (ws.drop 1).length c2) W := hs2
  have lr : (ws.drop 1).length = ws.length - 1 := by simp
  obtain ⟨V, hV⟩ : ∃ V, V = w.alloc (.cells #[.slice none 0 0, .slice none 0 0] 32) := ⟨_, rfl⟩
  have BV : Hid (Below w.heap.size w V) := by rw [hV]; exact bAlloc (Below.refl _ _) _
  have YV : Hid (Box V w.heap.size (.slice none 0 0) (.slice none 0 0) 32) := by rw [hV]; exact heap_alloc_new _ _
  have I2 : Hid (Ints w a2 (ws.drop 1)) := i2
  have ZERO : Hid (arrOf ws = none → aoB ws = false ∧ aoS ws = [] ∧ aoD ws = []) := fun h => by simp [aoB, aoS, aoD, h]
  have SOME : Hid (∀ s d, arrOf ws = some (s, d) → aoB ws = true ∧ aoS ws = s ∧ aoD ws = d) := fun s d h => by simp [aoB, aoS, aoD, h]
  have q9 : V.cell? ⟨b1, o1, none⟩ = some (.int .i64 r) := by rw [hV]; exact q1 _
  have L0 : 0 < ws.length := h0
  have hl2 : (ws.drop 1).length ≤ 1048576 := by rw [lr]; omega
  go_enter Try.func96, Try.ntmps96
  go_wp2_with fail
  rw [← hV]
  clear hV q1 h
  go_quiet (fail)
  generalize hW2 : V.drewN nq = w2
  have B2 : Hid (Below w.heap.size w w2) := by rw [← hW2]; exact bDrewN BV.out nq
  have Y2 : Hid (Box w2 w.heap.size (.slice none 0 0) (.slice none 0 0) 32) := by rw [← hW2]; exact YV.out
  clear hW2 BV YV q9 g2 hs2
  have r0 := Y2.out.c0
  have r1 := Y2.out.c1
  have f0 : w2.frozen? ⟨w.heap.size, 0, none⟩ = false := free_at Y2.out 0
  have f1 : w2.frozen? ⟨w.heap.size, 1, none⟩ = false := free_at Y2.out 1
  by_cases c1 : r < 0
  · obtain ⟨z1, z2, z3⟩ := ZERO.out (by rw [AO.out, if_neg (by omega)])
    go_wp2
    refine bodyPost_ret (results_arr_tmp Try.results96 _ _ w.heap.size _ _ rfl (arr_stored Y2.out)) rfl ?_
    rw [z1, z2, z3]
    exact ⟨_, rfl, arr_zero _ _ _, below_setCell (below_setCell B2.out (Nat.le_refl _) _ _) (Nat.le_refl _) _ _⟩
  by_cases c2' : r > (ws.length : Int) - 1
  · obtain ⟨z1, z2, z3⟩ := ZERO.out (by rw [AO.out, if_neg (by omega)])
    have c3 : r > ((ws.drop 1).length : Int) := by rw [lr]; omega
    generalize (ws.drop 1).length = lr' at *
    go_wp2
    refine bodyPost_ret (results_arr_tmp Try.results96 _ _ w.heap.size _ _ rfl (arr_stored Y2.out)) rfl ?_
    exact ⟨_, rfl, arr_zero _ _ _, below_setCell (below_setCell B2.out (Nat.le_refl _) _ _) (Nat.le_refl _) _ _⟩
  obtain ⟨R, rfl⟩ : ∃ R : Nat, r = (R : Int) := ⟨r.toNat, by omega⟩
  have c3 : ¬ ((R : Int) > ((ws.drop 1).length : Int)) := by rw [lr]; omega
  have c4 : (R : Int) ≤ ((ws.drop 1).length : Int) := by rw [lr]; omega
  obtain ⟨a3, c3', hs3, hc3, i3⟩ := ints_uptoH (M := R) i2 hc2 (by rw [lr]; omega)
  obtain ⟨a4, c4', hs4, hc4, i4⟩ := ints_fromC (M := R) i2 hc2 (by rw [lr]; omega)
  have AO2 := AO.out
  rw [if_pos (by omega), Int.toNat_natCast, show ws.drop (1 + R) = (ws.drop 1).drop R by rw [List.drop_drop]] at AO2
  generalize ws.drop 1 = rest at *
  obtain ⟨S, hS⟩ : ∃ S, S = rest.take R := ⟨_, rfl⟩
  obtain ⟨D, hD⟩ : ∃ D, D = rest.drop R := ⟨_, rfl⟩
  rw [← hS] at i3 AO2
  rw [← hD] at i4 hs4 AO2 hc4
  have lS : S.length = R := by rw [hS]; simp; omega
  have AI : Hid (∀ W', Below w.heap.size w W' → Calls Try.prog 44 #[.agg #[.slice a3 R c3', .slice a4 D.length c4']] W' fun e w' => ∃ v', e = .returned (.tuple #[v', .bool (aoB ws)]) ∧ Arr W'.heap.size w'.heap.size w' v' (aoS ws) (aoD ws) ∧ Below W'.heap.size W' w') := fun W' hb => by
    have hD9 : D.length ≤ 1048576 := by rw [hD]; simp; omega
    have hcS : S.length ≤ c3' := by rw [lS]; exact hc3
    have := copyIfOk_impl (w := W') (v := .agg #[.slice a3 S.length c3', .slice a4 D.length c4']) ⟨a3, c3', a4, c4', rfl, i3.keep hb, i4.keep hb, hcS, hc4⟩ (by omega) hD9
    rw [lS] at this
    by_cases aa : arrOk S D = true
    · obtain ⟨z1, z2, z3⟩ := SOME.out S D (by rw [AO2, if_pos aa])
      rw [z1, z2, z3]
      simp only [aa, if_true] at this
      exact this
    · obtain ⟨z1, z2, z3⟩ := ZERO.out (by rw [AO2, if_neg aa])
      rw [z1, z2, z3]
      rw [show arrOk S D = false by simpa using aa] at this
      simpa using this
  obtain ⟨XS, hXS⟩ : ∃ X, X = aoS ws := ⟨_, rfl⟩
  obtain ⟨XD, hXD⟩ : ∃ X, X = aoD ws := ⟨_, rfl⟩
  obtain ⟨XB, hXB⟩ : ∃ X, X = aoB ws := ⟨_, rfl⟩
  rw [← hXS, ← hXD, ← hXB] at AI
  have HX : Hid (aoS ws = XS ∧ aoD ws = XD ∧ aoB ws = XB) := ⟨hXS.symm, hXD.symm, hXB.symm⟩
  clear hXS hXD hXB
  rw [lr] at hs3 hs4
  clear AO AO2 ZERO SOME hS hD i3 i4 I2 i2 lS hc4 hc3
  go_wp2_with fail
  go_region_held3 (fun _ => True) (exact trivial)
    ((go_at_call 44; refine (AI.out _ (by repeat first | exact B2.out | refine Below.drew ?_)).mono ?_; rintro r w3 ⟨v', rfl, hA, hb⟩; obtain ⟨ax, cx, ay, cy, rfl, _⟩ := hA.arrI; have B23 : Hid (Below w2.heap.size w2 w3) := bTrans (by repeat first | exact Below.refl _ _ | refine Below.drew ?_) hb; have A3 : Hid (Arr w2.heap.size w3.heap.size w3 (.agg #[.slice ax XS.length cx, .slice ay XD.length cy]) XS XD) := hA.mono (sizeBelowH (w := w2) (by repeat first | exact Below.refl _ _ | refine Below.drew ?_)) (Nat.le_refl _); have Y3 : Hid (Box w3 w.heap.size (.slice none 0 0) (.slice none 0 0) 32) := Y2.out.keep B23.out; have s0 := Y3.out.c0; have s1 := Y3.out.c1; have t0 : w3.frozen? ⟨w.heap.size, 0, none⟩ = false := free_at Y3.out 0; have t1 : w3.frozen? ⟨w.heap.size, 1, none⟩ = false := free_at Y3.out 1; clear hA hb))
  all_goals
    go_wp2
    refine bodyPost_ret (results_arr_tmp Try.results96 _ _ w.heap.size _ _ rfl (arr_stored Y3.out)) rfl ?_
    have S2 := Y2.out.lt
    have S3 := B23.out.size
    rw [HX.out.1, HX.out.2.1, HX.out.2.2]
    refine ⟨_, rfl, ?_, below_setCell (below_setCell (bTrans B2.out B23.out) (Nat.le_refl _) _ _) (Nat.le_refl _) _ _⟩
    exact ((A3.out.setCell S2 _ _).setCell S2 _ _).mono (by omega) (by simp [size_setCell])
theorem aoO (W : List Int) (t : Int) (n : Nat) (E : Nat → Cel) (k : Nat) (h1 : hOkB W.length t n E = true) (h2 : liveB n E (k : Int) = true) : gB W t n E k = aoB (wds W (E k)) ∧ gS W t n E k = aoS (wds W (E k)) ∧ gD W t n E k = aoD (wds W (E k)) := by
  have : gO W t n E k = arrOf (wds W (E k)) := by unfold gO; rw [if_pos ⟨h1, h2⟩]; simp
  unfold gB gS gD aoB aoS aoD
  rw [this]
  exact ⟨rfl, rfl, rfl⟩
set_option maxRecDepth 20000 in
set_option maxHeartbeats 8000000 in
theorem get_impl {w : World} {v : Value} {W : List Int} {t : Int} {n : Nat} {E : Nat → Cel} (i : Int) (h : HI w v W t n E) (hk : hOkB W.length t n E = true) (hW : W.length ≤ 1048576) (hn : n ≤ 1048576) :
    Calls Try.prog 58 #[v, .int .i64 i] w fun e w' => ∃ v', e = .returned (.tuple #[v', .bool (gB W t n E i)]) ∧ Arr w.heap.size w'.heap.size w' v' (gS W t n E i) (gD W t n E i) ∧ Below w.heap.size w w' := by
  have OK : Hid (hOk W.length t n E) := hOkB_iff.1 hk
  have HH : Hid (HI w v W t n E) := h
  obtain ⟨wa, wc, ca, cc, rfl, h1, h2, h3, h4⟩ := h
  have H3 : Hid (CsA w ca n E) := h3
  clear h1 h2 h3 h4
  go_enter Try.func58, Try.ntmps58
  go_wp2_with fail
  generalize hV : (w.alloc (.cells #[.slice wa W.length wc, .int .i64 t, .slice ca n cc] 28)).alloc (.cells #[.slice none 0 0, .slice none 0 0] 32) = V
  have B1 : Hid (Below w.heap.size w V) := by rw [← hV]; exact bAlloc (bAlloc (Below.refl _ _) _) _
  have X1 : Hid (Box3 V w.heap.size (.slice wa W.length wc) (.int .i64 t) (.slice ca n cc) 28) := by rw [← hV]; exact (box3_new _ _ _ _ _).alloc _
  have Y1 : Hid (Box V (w.heap.size + 1) (.slice none 0 0) (.slice none 0 0) 32) := by rw [← hV]; exact heap_alloc2_new w _ _
  clear hV
  refine (at_impl (H3.out.keep B1.out) OK.out.2.2.2.2.1 i hn).mono ?_
  rintro r w2 ⟨rfl, hb⟩
  have B2 : Hid (Below w.heap.size w w2) := bTrans B1.out hb
  have X2 : Hid (Box3 w2 w.heap.size (.slice wa W.length wc) (.int .i64 t) (.slice ca n cc) 28) := X1.out.keep hb
  have Y2 : Hid (Box w2 (w.heap.size + 1) (.slice none 0 0) (.slice none 0 0) 32) := Y1.out.keep hb
  clear hb B1 X1 Y1
  by_cases ll : liveB n E i = true
  case neg =>
    obtain ⟨e1, e2, e3⟩ := gO_none (W := W) (t := t) (n := n) (E := E) (i := i) (by unfold gO; rw [if_neg (fun h => ll h.2)])
    rw [show liveB n E i = false by simpa using ll]
    generalize (atC n E i).f = af at *
    generalize (atC n E i).l = al at *
    generalize (atC n E i).v = av at *
    have BO := bAlloc (Below.refl w2.heap.size w2) (.cells #[.int .i64 af, .int .i64 al, .bool av] 47)
    have Y3 := Y2.out.keep BO
    have r0 := Y3.c0
    have r1 := Y3.c1
    have f0 : (w2.alloc (.cells #[.int .i64 af, .int .i64 al, .bool av] 47)).frozen? ⟨w.heap.size + 1, 0, none⟩ = false := free_at Y3 0
    have f1 : (w2.alloc (.cells #[.int .i64 af, .int .i64 al, .bool av] 47)).frozen? ⟨w.heap.size + 1, 1, none⟩ = false := free_at Y3 1
    have Y4 : Hid (Box (w2.alloc (.cells #[.int .i64 af, .int .i64 al, .bool av] 47)) (w.heap.size + 1) (.slice none 0 0) (.slice none 0 0) 32) := Y3
    have B4 : Hid (Below w.heap.size w (w2.alloc (.cells #[.int .i64 af, .int .i64 al, .bool av] 47))) := bTrans B2.out BO
    clear BO Y3
    go_wp2
    refine bodyPost_ret (results_arr_tmp Try.results58 _ _ (w.heap.size + 1) _ _ rfl (arr_stored Y4.out)) rfl ?_
    rw [e1, e2, e3]
    exact ⟨_, rfl, arr_zero _ _ _, below_setCell (below_setCell B4.out (by omega) _ _) (by omega) _ _⟩
  case pos =>
  obtain ⟨k, rfl, hkn, hv⟩ := liveB_at ll
  have fk := (OK.out.2.2.2.2.1 k hkn).2 hv
  have tw := OK.out.2.2.1
  have eat : atC n E (k : Int) = E k := by unfold atC; rw [if_pos (by omega)]; simp
  obtain ⟨F, hF⟩ : ∃ F : Nat, (E k).f = (F : Int) := ⟨(E k).f.toNat, by omega⟩
  obtain ⟨L, hL⟩ : ∃ L : Nat, (E k).l = (L : Int) := ⟨(E k).l.toNat, by omega⟩
  have WD : wds W (E k) = (W.drop F).take L := by unfold wds; rw [hF, hL]; simp
  obtain ⟨g1, g2, g3⟩ := aoO W t n E k hk ll
  rw [WD] at g1 g2 g3
  rw [hF, hL] at fk
  rw [ll, eat, hF, hL, hv]
  have GG : Hid (gB W t n E k = aoB ((W.drop F).take L) ∧ gS W t n E k = aoS ((W.drop F).take L) ∧ gD W t n E k = aoD ((W.drop F).take L)) := ⟨g1, g2, g3⟩
  clear g1 g2 g3 WD
  generalize hC : w2.alloc (.cells #[.int .i64 (F : Int), .int .i64 (L : Int), .bool true] 47) = w3
  have B23 : Below w2.heap.size w2 w3 := by rw [← hC]; exact bAlloc (Below.refl _ _) _
  have B3 : Hid (Below w.heap.size w w3) := bTrans B2.out B23
  have X3 : Hid (Box3 w3 w.heap.size (.slice wa W.length wc) (.int .i64 t) (.slice ca n cc) 28) := X2.out.keep B23
  have Y3 : Hid (Box w3 (w.heap.size + 1) (.slice none 0 0) (.slice none 0 0) 32) := Y2.out.keep B23
  have Q3 : Hid (Box3 w3 w2.heap.size (.int .i64 (F : Int)) (.int .i64 (L : Int)) (.bool true) 47) := by rw [← hC]; exact box3_new _ _ _ _ _
  have x0 := X3.out.c0
  have x1 := X3.out.c1
  have x2 := X3.out.c2
  have q0 := Q3.out.c0
  have q1 := Q3.out.c1
  have q2 := Q3.out.c2
  clear B23
  go_wp2_with fail
  clear hC x0 x1 x2 q0 q1 q2
  refine (wordsOf_impl (F := F) (L := L) (HH.out.keep B3.out) true (by omega) hW).mono ?_
  rintro r w4 ⟨a4, c4, rfl, hc4, hI, hb⟩
  have I4 : Hid (Ints w4 a4 ((W.drop F).take L)) := hI
  have B4 : Hid (Below w.heap.size w w4) := bTrans B3.out hb
  have Y4 : Hid (Box w4 (w.heap.size + 1) (.slice none 0 0) (.slice none 0 0) 32) := Y3.out.keep hb
  have lws : ((W.drop F).take L).length = L := by simp; omega
  clear hI hb
  go_wp2_with fail
  have AW := arrayOfWords_impl (c := c4) I4.out (by rw [lws]; exact hc4) (by rw [lws]; omega) (by rw [lws]; omega)
  rw [lws] at AW
  refine AW.mono ?_
  rintro r w5 ⟨v5, rfl, hA, hb⟩
  obtain ⟨ax, cx, ay, cy, rfl, _⟩ := hA.arrI
  have A5 : Hid (Arr w4.heap.size w5.heap.size w5 (.agg #[.slice ax (aoS ((W.drop F).take L)).length cx, .slice ay (aoD ((W.drop F).take L)).length cy]) (aoS ((W.drop F).take L)) (aoD ((W.drop F).take L))) := hA
  have B5 : Hid (Below w.heap.size w w5) := bTrans B4.out hb
  have Y5 : Hid (Box w5 (w.heap.size + 1) (.slice none 0 0) (.slice none 0 0) 32) := Y4.out.keep hb
  have S4 := Y4.out.lt
  have S5 := hb.size
  clear hA hb AW
  have r0 := Y5.out.c0
  have r1 := Y5.out.c1
  have f0 : w5.frozen? ⟨w.heap.size + 1, 0, none⟩ = false := free_at Y5.out 0
  have f1 : w5.frozen? ⟨w.heap.size + 1, 1, none⟩ = false := free_at Y5.out 1
  obtain ⟨g1, g2, g3⟩ := GG.out
  generalize aoS ((W.drop F).take L) = XS at *
  generalize aoD ((W.drop F).take L) = XD at *
  generalize aoB ((W.drop F).take L) = XB at *
  have GX : Hid (gB W t n E k = XB ∧ gS W t n E k = XS ∧ gD W t n E k = XD) := ⟨g1, g2, g3⟩
  clear g1 g2 g3 GG
  go_wp2
  refine bodyPost_ret (results_arr_tmp Try.results58 _ _ (w.heap.size + 1) _ _ rfl (arr_stored Y5.out)) rfl ?_
  obtain ⟨g1, g2, g3⟩ := GX.out
  rw [g1, g2, g3]
  refine ⟨_, rfl, ?_, below_setCell (below_setCell B5.out (by omega) _ _) (by omega) _ _⟩
  exact ((A5.out.setCell S4 _ _).setCell S4 _ _).mono (by omega) (by simp [size_setCell])
end Go.Proofs.Ytmmjidhpmbcoiaa
namespace Go.Proofs.Ytmmjidhpmbcoiaa
open Go.RowKit
set_option linter.unusedVariables false
set_option linter.unusedSimpArgs false
theorem wds_len (W : List Int) (c : Cel) : (wds W c).length ≤ W.length := by unfold wds; simp; omega
theorem arrOf_len (ws : List Int) : (((arrOf ws).getD ([], [])).1).length ≤ ws.length ∧ (((arrOf ws).getD ([], [])).2).length ≤ ws.length := by
  unfold arrOf
  split
  · split
    · simp; omega
    · simp
  · simp
theorem gO_len (W : List Int) (t : Int) (n : Nat) (E : Nat → Cel) (i : Int) : (gS W t n E i).length ≤ W.length ∧ (gD W t n E i).length ≤ W.length := by
  unfold gS gD gO
  split
  · have := arrOf_len (wds W (E i.toNat))
    have := wds_len W (E i.toNat)
    omega
  · simp
theorem gS_len (W : List Int) (t : Int) (n : Nat) (E : Nat → Cel) (i : Int) : (gS W t n E i).length ≤ W.length := (gO_len W t n E i).1
theorem gD_len (W : List Int) (t : Int) (n : Nat) (E : Nat → Cel) (i : Int) : (gD W t n E i).length ≤ W.length := (gO_len W t n E i).2
set_option maxRecDepth 20000 in
set_option maxHeartbeats 8000000 in
theorem heapGet_impl (hS : SortsBy) (hS0 : SortsNone) {w : World} {v : Value} {W : List Int} {t : Int} {n : Nat} {E : Nat → Cel} (i : Int) (h : HI w v W t n E) (he : (∀ i, in64 (E i).f ∧ in64 (E i).l) ∧ in64 t) (hW : W.length ≤ 1048576) (hn : n ≤ 1048576) :
    Calls Try.prog 21 #[v, .int .i64 i] w fun e w' => ∃ v', e = .returned (.tuple #[v', .bool (gB W t n E i)]) ∧ Arr w.heap.size w'.heap.size w' v' (gS W t n E i) (gD W t n E i) ∧ Below w.heap.size w w' := by
  have CK : Hid (∀ W', Below w.heap.size w W' → Calls Try.prog 16 #[v] W' fun e w' => e = .returned (.bool (hOkB W.length t n E)) ∧ Below W'.heap.size W' w') := fun W' hb => heapOk_impl hS hS0 (h.keep hb) he hW hn
  have CG : Hid (hOkB W.length t n E = true → ∀ W', Below w.heap.size w W' → Calls Try.prog 58 #[v, .int .i64 i] W' fun e w' => ∃ v', e = .returned (.tuple #[v', .bool (gB W t n E i)]) ∧ Arr W'.heap.size w'.heap.size w' v' (gS W t n E i) (gD W t n E i) ∧ Below W'.heap.size W' w') := fun hk W' hb => get_impl i (h.keep hb) hk hW hn
  obtain ⟨wa, wc, ca, cc, rfl, h1, h2, h3, h4⟩ := h
  clear h1 h2 h3 h4 he hS hS0
  go_enter Try.func21, Try.ntmps21
  go_wp2_with fail
  generalize hV : (w.alloc (.cells #[.slice wa W.length wc, .int .i64 t, .slice ca n cc] 28)).alloc (.cells #[.slice none 0 0, .slice none 0 0] 32) = V
  have B1 : Hid (Below w.heap.size w V) := by rw [← hV]; exact bAlloc (bAlloc (Below.refl _ _) _) _
  have X1 : Hid (Box3 V w.heap.size (.slice wa W.length wc) (.int .i64 t) (.slice ca n cc) 28) := by rw [← hV]; exact (box3_new _ _ _ _ _).alloc _
  have Y1 : Hid (Box V (w.heap.size + 1) (.slice none 0 0) (.slice none 0 0) 32) := by rw [← hV]; exact heap_alloc2_new w _ _
  clear hV
  refine (CK.out _ B1.out).mono ?_
  rintro r w2 ⟨rfl, hb⟩
  have B2 : Hid (Below w.heap.size w w2) := bTrans B1.out hb
  have X2 : Hid (Box3 w2 w.heap.size (.slice wa W.length wc) (.int .i64 t) (.slice ca n cc) 28) := X1.out.keep hb
  have Y2 : Hid (Box w2 (w.heap.size + 1) (.slice none 0 0) (.slice none 0 0) 32) := Y1.out.keep hb
  clear hb B1 X1 Y1
  by_cases kk : hOkB W.length t n E = true
  case neg =>
    obtain ⟨e1, e2, e3⟩ := gO_none (W := W) (t := t) (n := n) (E := E) (i := i) (by unfold gO; rw [if_neg (fun h => kk h.1)])
    rw [show hOkB W.length t n E = false by simpa using kk]
    have r0 := Y2.out.c0
    have r1 := Y2.out.c1
    have f0 : w2.frozen? ⟨w.heap.size + 1, 0, none⟩ = false := free_at Y2.out 0
    have f1 : w2.frozen? ⟨w.heap.size + 1, 1, none⟩ = false := free_at Y2.out 1
    go_wp2
    refine bodyPost_ret (results_arr_tmp Try.results21 _ _ (w.heap.size + 1) _ _ rfl (arr_stored Y2.out)) rfl ?_
    rw [e1, e2, e3]
    exact ⟨_, rfl, arr_zero _ _ _, below_setCell (below_setCell B2.out (by omega) _ _) (by omega) _ _⟩
  case pos =>
  have GG := CG.out kk
  have HG : Hid (∀ W', Below w.heap.size w W' → Calls Try.prog 58 #[.agg #[.slice wa W.length wc, .int .i64 t, .slice ca n cc], .int .i64 i] W' fun e w' => ∃ v', e = .returned (.tuple #[v', .bool (gB W t n E i)]) ∧ Arr W'.heap.size w'.heap.size w' v' (gS W t n E i) (gD W t n E i) ∧ Below W'.heap.size W' w') := GG
  have x0 := X2.out.c0
  have x1 := X2.out.c1
  have x2 := X2.out.c2
  clear GG CG CK
  rw [kk]
  go_wp2_with fail
  refine (HG.out _ B2.out).mono ?_
  rintro r w3 ⟨v3, rfl, hA, hb⟩
  obtain ⟨ax, cx, ay, cy, rfl, _⟩ := hA.arrI
  have A3 : Hid (Arr w2.heap.size w3.heap.size w3 (.agg #[.slice ax (gS W t n E i).length cx, .slice ay (gD W t n E i).length cy]) (gS W t n E i) (gD W t n E i)) := hA
  have B3 : Hid (Below w.heap.size w w3) := bTrans B2.out hb
  have Y3 : Hid (Box w3 (w.heap.size + 1) (.slice none 0 0) (.slice none 0 0) 32) := Y2.out.keep hb
  have S2 := Y2.out.lt
  have S3 := hb.size
  clear hA hb x0 x1 x2
  have r0 := Y3.out.c0
  have r1 := Y3.out.c1
  have f0 : w3.frozen? ⟨w.heap.size + 1, 0, none⟩ = false := free_at Y3.out 0
  have f1 : w3.frozen? ⟨w.heap.size + 1, 1, none⟩ = false := free_at Y3.out 1
  go_wp2
  refine bodyPost_ret (results_arr_tmp Try.results21 _ _ (w.heap.size + 1) _ _ rfl (arr_stored Y3.out)) rfl ?_
  refine ⟨_, rfl, ?_, below_setCell (below_setCell B3.out (by omega) _ _) (by omega) _ _⟩
  exact ((A3.out.setCell S2 _ _).setCell S2 _ _).mono (by omega) (by simp [size_setCell])
end Go.Proofs.Ytmmjidhpmbcoiaa
namespace Go.Proofs.Ytmmjidhpmbcoiaa
open Go.RowKit
set_option linter.unusedVariables false
set_option linter.unusedSimpArgs false
set_option maxRecDepth 20000 in
set_option maxHeartbeats 8000000 in
/-- The heap at an address without that array. -/
theorem drop_impl {w : World} {q : Nat} {x : Value} {t : Int} {z : Value} {n : Nat} {E : Nat → Cel} {lo C : Nat} (hX : Box3 w q x (.int .i64 t) z 28) (hz : CPiece lo C w z n E) (hq : C ≤ q) (hlo : lo ≤ C) (hf : ∀ i, i < n → fit t (E i)) (i : Int) (hn : n ≤ 1048576) :
    Calls Try.prog 56 #[.pointer (some ⟨q, 0, none⟩), .int .i64 i] w fun e w' => e = .returned (.bool (liveB n E i)) ∧ Box3 w' q x (.int .i64 t) z 28 ∧ CPiece lo C w' z n (dropE n E i) ∧ Win lo (q + 1) w w' := by
  have X : Hid (Box3 w q x (.int .i64 t) z 28) := hX
  have Z : Hid (CPiece lo C w z n E) := hz
  have lq := hX.lt
  obtain ⟨ca, cc, rfl, hcc, hz⟩ := hz
  have AT : Hid (∀ W', Below w.heap.size w W' → Calls Try.prog 95 #[.slice ca n cc, .int .i64 i] W' fun e w' => e = .returned (.tuple #[.agg #[.int .i64 (atC n E i).f, .int .i64 (atC n E i).l, .bool (atC n E i).v], .bool (liveB n E i)]) ∧ Below W'.heap.size W' w') := fun W' hb => at_impl (by obtain ⟨_, _, e, _, h⟩ := (Z.out.keep hb).csI; cases e; exact h) hf i hn
  have x2 := X.out.c2
  go_enter Try.func56, Try.ntmps56
  go_wp2_with fail
  refine (AT.out _ (Below.refl _ _)).mono ?_
  rintro r w1 ⟨rfl, hb⟩
  generalize hC : (Obj.cells #[.int .i64 (atC n E i).f, .int .i64 (atC n E i).l, .bool (atC n E i).v] 47) = CO
  have B1 : Hid (Below w.heap.size w (w1.alloc CO)) := bAlloc hb _
  generalize (atC n E i).f = af at *
  generalize (atC n E i).l = al at *
  generalize (atC n E i).v = av at *
  clear hb x2
  by_cases ll : liveB n E i = true
  case neg =>
    have e1 : liveB n E i = false := by simpa using ll
    have e2 : dropE n E i = E := by unfold dropE; rw [if_neg ll]
    rw [e1]
    go_wp2
    go_ret
    rw [e1, e2]
    exact ⟨rfl, X.out.keep B1.out, Z.out.keep B1.out, Below.win B1.out⟩
  case pos =>
    obtain ⟨k, rfl, hk, hv⟩ := liveB_at ll
    have e2 : dropE n E (k : Int) = up E k cel0 := by unfold dropE; rw [if_pos ll]; simp
    rcases hz with hz | ⟨g, rfl, hg1, hg2, hz⟩
    · omega
    have ZB : Hid (CBlk (w1.alloc CO) g n E) := hz.keep B1.out
    have X1 : Hid (Box3 (w1.alloc CO) q x (.int .i64 t) (.slice (some ⟨g, 0, none⟩) n cc) 28) := X.out.keep B1.out
    rw [ll]
    go_wp2_with fail
    have WI := with_impl (cc := cc) ZB.out hk cel0 hn
    refine WI.mono ?_
    rintro r w2 ⟨rfl, hB, hW⟩
    have ZB2 : Hid (CBlk w2 g n (up E k cel0)) := hB
    have WW : Hid (Win g (g + 1) (w1.alloc CO) w2) := hW
    have X2 : Hid (Box3 w2 q x (.int .i64 t) (.slice (some ⟨g, 0, none⟩) n cc) 28) := X1.out.win hW (by omega)
    clear hB hW WI
    have x2 := X2.out.c2
    have f2 := X2.out.free 2
    go_wp2
    go_ret
    rw [ll, e2]
    have s1 := B1.out.size
    have s2 := WW.out.size
    refine ⟨rfl, X2.out.set2 _, ⟨_, _, rfl, hcc, .inr ⟨g, rfl, hg1, hg2, ZB2.out.win (win_setCell _ _ _ _) (by omega)⟩⟩, ?_⟩
    have WS := win_setCell w2 q 2 (.slice (some ⟨g, 0, none⟩) n cc)
    exact ⟨by rw [WS.os, WW.out.os, B1.out.os], by rw [WS.tape, WW.out.tape, B1.out.tape], by rw [WS.output, WW.out.output, B1.out.output], Nat.le_trans s1 (Nat.le_trans s2 WS.size), fun j hj hd => by rw [WS.block j (by omega) (by omega), WW.out.block j (by omega) (by omega), B1.out.block j hj]⟩
end Go.Proofs.Ytmmjidhpmbcoiaa
namespace Go.Proofs.Ytmmjidhpmbcoiaa
open Go.RowKit
set_option linter.unusedVariables false
set_option linter.unusedSimpArgs false
set_option maxRecDepth 20000 in
set_option maxHeartbeats 16000000 in
theorem heapDrop_spec {w : World} {v : Value} {W : List Int} {t : Int} {n : Nat} {E : Nat → Cel} (i : Int) (h : HI w v W t n E) (he : (∀ i, in64 (E i).f ∧ in64 (E i).l) ∧ in64 t) (hW : W.length ≤ 1048576) (hn : n ≤ 1048576) :
    Calls Try.prog 24 #[v, .int .i64 i] w fun e w' => ∃ v', e = .returned (.tuple #[v', .bool (hOkB W.length t n E && liveB n E i)]) ∧ HP w.heap.size w'.heap.size w' v' (if hOkB W.length t n E = true then W else []) (if hOkB W.length t n E = true then t else 0) (if hOkB W.length t n E = true then n else 0) (dropE n E i) ∧ Below w.heap.size w w' := by
  have CK : Hid (∀ W', Below w.heap.size w W' → Calls Try.prog 25 #[v] W' fun e w' => e = .returned (.bool (hOkB W.length t n E)) ∧ Below W'.heap.size W' w') := fun W' hb => heapOk_spec (h.keep hb) he hW hn
  have CC : Hid (∀ W', Below w.heap.size w W' → Calls Try.prog 54 #[v] W' fun e w' => ∃ v', e = .returned v' ∧ HP W'.heap.size w'.heap.size w' v' W t n E ∧ Below W'.heap.size W' w') := fun W' hb => heapCopy_spec (h.keep hb) hW hn
  have CL : Hid (∀ W', Below w.heap.size w W' → Calls Try.prog 57 #[v, .int .i64 i] W' fun e w' => e = .returned (.bool (liveB n E i)) ∧ Below W'.heap.size W' w') := fun W' hb => live_spec (h.keep hb) i hn
  obtain ⟨wa, wc, ca, cc, rfl, h1, h2, h3, h4⟩ := h
  clear h1 h2 h3 h4 he
  go_enter Try.func24, Try.ntmps24
  go_wp2_with fail
  generalize hV : (w.alloc (.cells #[.slice wa W.length wc, .int .i64 t, .slice ca n cc] 28)).alloc (.cells #[.slice none 0 0, .int .i64 0, .slice none 0 0] 28) = V
  have B1 : Hid (Below w.heap.size w V) := by rw [← hV]; exact bAlloc (bAlloc (Below.refl _ _) _) _
  have X1 : Hid (Box3 V w.heap.size (.slice wa W.length wc) (.int .i64 t) (.slice ca n cc) 28) := by rw [← hV]; exact (box3_new _ _ _ _ _).alloc _
  have Y1 : Hid (Box3 V (w.heap.size + 1) (.slice none 0 0) (.int .i64 0) (.slice none 0 0) 28) := by
    have := box3_new (w.alloc (.cells #[.slice wa W.length wc, .int .i64 t, .slice ca n cc] 28)) (.slice none 0 0) (.int .i64 0) (.slice none 0 0) 28
    show Box3 _ _ _ _ _ _
    rw [← hV]; simpa using this
  clear hV
  refine (CK.out _ B1.out).mono ?_
  rintro r w2 ⟨rfl, hb⟩
  have B2 : Hid (Below w.heap.size w w2) := bTrans B1.out hb
  have X2 : Hid (Box3 w2 w.heap.size (.slice wa W.length wc) (.int .i64 t) (.slice ca n cc) 28) := X1.out.keep hb
  have Y2 : Hid (Box3 w2 (w.heap.size + 1) (.slice none 0 0) (.int .i64 0) (.slice none 0 0) 28) := Y1.out.keep hb
  clear hb B1 X1 Y1
  by_cases kk : hOkB W.length t n E = true
  case neg =>
    have e1 : hOkB W.length t n E = false := by simpa using kk
    rw [e1]
    have r0 := Y2.out.c0
    have r1 := Y2.out.c1
    have r2 := Y2.out.c2
    have f0 := Y2.out.free 0
    have f1 := Y2.out.free 1
    have f2 := Y2.out.free 2
    go_wp2
    clear r0 r1 r2 f0 f1 f2
    generalize hZ : ((w2.setCell ⟨w.heap.size + 1, 0, none⟩ (.slice none 0 0)).setCell ⟨w.heap.size + 1, 1, none⟩ (.int .i64 0)).setCell ⟨w.heap.size + 1, 2, none⟩ (.slice none 0 0) = wz
    have YZ : Box3 wz (w.heap.size + 1) (.slice none 0 0) (.int .i64 0) (.slice none 0 0) 28 := by rw [← hZ]; exact ((Y2.out.set0 _).set1 _).set2 _
    have BZ : Below w.heap.size w wz := by rw [← hZ]; exact below_setCell (below_setCell (below_setCell B2.out (by omega) _ _) (by omega) _ _) (by omega) _ _
    have v0 := YZ.c0
    have v1 := YZ.c1
    have v2 := YZ.c2
    refine bodyPost_ret (v := .tuple #[.agg #[.slice none 0 0, .int .i64 0, .slice none 0 0], .bool false]) (by simp [results, Try.results24, go_sem, v0, v1, v2]) rfl ?_
    exact ⟨_, rfl, HP.zero _ _ BZ.size _ _, BZ⟩
  case pos =>
  have OK : Hid (hOk W.length t n E) := hOkB_iff.1 kk
  have x0 := X2.out.c0
  have x1 := X2.out.c1
  have x2 := X2.out.c2
  rw [kk]
  go_wp2_with fail
  refine (CL.out _ B2.out).mono ?_
  rintro r w3 ⟨rfl, hb⟩
  have B3 : Hid (Below w.heap.size w w3) := bTrans B2.out hb
  have X3 : Hid (Box3 w3 w.heap.size (.slice wa W.length wc) (.int .i64 t) (.slice ca n cc) 28) := X2.out.keep hb
  have Y3 : Hid (Box3 w3 (w.heap.size + 1) (.slice none 0 0) (.int .i64 0) (.slice none 0 0) 28) := Y2.out.keep hb
  clear hb B2 X2 Y2 x0 x1 x2
  have x0 := X3.out.c0
  have x1 := X3.out.c1
  have x2 := X3.out.c2
  have L3 := Y3.out.lt
  by_cases ll : liveB n E i = true
  case neg =>
    have e1 : liveB n E i = false := by simpa using ll
    have e2 : dropE n E i = E := by unfold dropE; rw [if_neg ll]
    rw [e1]
    go_wp2_with fail
    refine (CC.out _ B3.out).mono ?_
    rintro r w4 ⟨v', rfl, hP, hb⟩
    have P4 : Hid (HP w3.heap.size w4.heap.size w4 v' W t n E) := hP
    have B4 : Hid (Below w.heap.size w w4) := bTrans B3.out hb
    have Y4 : Hid (Box3 w4 (w.heap.size + 1) (.slice none 0 0) (.int .i64 0) (.slice none 0 0) 28) := Y3.out.keep hb
    clear hb hP x0 x1 x2
    obtain ⟨xa, xc, za, zc, rfl⟩ := P4.out.form
    have r0 := Y4.out.c0
    have r1 := Y4.out.c1
    have r2 := Y4.out.c2
    have f0 := Y4.out.free 0
    have f1 := Y4.out.free 1
    have f2 := Y4.out.free 2
    go_wp2
    clear r0 r1 r2 f0 f1 f2
    generalize hZ : ((w4.setCell ⟨w.heap.size + 1, 0, none⟩ (.slice xa W.length xc)).setCell ⟨w.heap.size + 1, 1, none⟩ (.int .i64 t)).setCell ⟨w.heap.size + 1, 2, none⟩ (.slice za n zc) = wz
    have YZ : Box3 wz (w.heap.size + 1) (.slice xa W.length xc) (.int .i64 t) (.slice za n zc) 28 := by rw [← hZ]; exact ((Y4.out.set0 _).set1 _).set2 _
    have WZ : Win (w.heap.size + 1) (w.heap.size + 1 + 1) w4 wz := by rw [← hZ]; exact ((win_setCell _ _ _ _).trans (win_setCell _ _ _ _)).trans (win_setCell _ _ _ _)
    have BZ : Below w.heap.size w wz := by rw [← hZ]; exact below_setCell (below_setCell (below_setCell B4.out (by omega) _ _) (by omega) _ _) (by omega) _ _
    have v0 := YZ.c0
    have v1 := YZ.c1
    have v2 := YZ.c2
    refine bodyPost_ret (v := .tuple #[.agg #[.slice xa W.length xc, .int .i64 t, .slice za n zc], .bool false]) (by simp [results, Try.results24, go_sem, v0, v1, v2]) rfl ?_
    exact ⟨_, rfl, (P4.out.win WZ (.inr (by omega))).mono (by omega) WZ.size, BZ⟩
  case pos =>
    obtain ⟨k, rfl, hk, hv⟩ := liveB_at ll
    have e2 : dropE n E (k : Int) = up E k cel0 := by unfold dropE; rw [if_pos ll]; simp
    rw [ll]
    go_wp2_with fail
    refine (CC.out _ B3.out).mono ?_
    rintro r w4 ⟨v', rfl, hP, hb⟩
    have P4 : Hid (HP w3.heap.size w4.heap.size w4 v' W t n E) := hP
    have B4 : Hid (Below w.heap.size w w4) := bTrans B3.out hb
    have Y4 : Hid (Box3 w4 (w.heap.size + 1) (.slice none 0 0) (.int .i64 0) (.slice none 0 0) 28) := Y3.out.keep hb
    have S4 := hb.size
    clear hb hP x0 x1 x2
    go_wp2_with fail
    refine (drop_spec P4.out (Nat.le_refl _) hk hn).mono ?_
    rintro r w5 ⟨v5, rfl, hP, hb⟩
    have P5 : Hid (HP w3.heap.size w4.heap.size w5 v5 W t n (up E k cel0)) := hP
    have B5 : Hid (Below w.heap.size w w5) := B4.out.trans (hb.mono (by have := B3.out.size; omega))
    have Y5 : Hid (Box3 w5 (w.heap.size + 1) (.slice none 0 0) (.int .i64 0) (.slice none 0 0) 28) := by
      show w5.heap[_]? = _
      rw [hb.block _ L3]
      exact Y4.out
    have S5 := hb.size
    clear hb hP
    obtain ⟨xa, xc, za, zc, rfl⟩ := P5.out.form
    have r0 := Y5.out.c0
    have r1 := Y5.out.c1
    have r2 := Y5.out.c2
    have f0 := Y5.out.free 0
    have f1 := Y5.out.free 1
    have f2 := Y5.out.free 2
    go_wp2
    clear r0 r1 r2 f0 f1 f2
    generalize hZ : ((w5.setCell ⟨w.heap.size + 1, 0, none⟩ (.slice xa W.length xc)).setCell ⟨w.heap.size + 1, 1, none⟩ (.int .i64 t)).setCell ⟨w.heap.size + 1, 2, none⟩ (.slice za n zc) = wz
    have YZ : Box3 wz (w.heap.size + 1) (.slice xa W.length xc) (.int .i64 t) (.slice za n zc) 28 := by rw [← hZ]; exact ((Y5.out.set0 _).set1 _).set2 _
    have WZ : Win (w.heap.size + 1) (w.heap.size + 1 + 1) w5 wz := by rw [← hZ]; exact ((win_setCell _ _ _ _).trans (win_setCell _ _ _ _)).trans (win_setCell _ _ _ _)
    have BZ : Below w.heap.size w wz := by rw [← hZ]; exact below_setCell (below_setCell (below_setCell B5.out (by omega) _ _) (by omega) _ _) (by omega) _ _
    have v0 := YZ.c0
    have v1 := YZ.c1
    have v2 := YZ.c2
    refine bodyPost_ret (v := .tuple #[.agg #[.slice xa W.length xc, .int .i64 t, .slice za n zc], .bool true]) (by simp [results, Try.results24, go_sem, v0, v1, v2]) rfl ?_
    exact ⟨_, rfl, (P5.out.win WZ (.inr (by omega))).mono (by omega) (Nat.le_trans S5 WZ.size), BZ⟩
set_option maxRecDepth 20000 in
set_option maxHeartbeats 16000000 in
theorem heapDrop_impl (hS : SortsBy) (hS0 : SortsNone) {w : World} {v : Value} {W : List Int} {t : Int} {n : Nat} {E : Nat → Cel} (i : Int) (h : HI w v W t n E) (he : (∀ i, in64 (E i).f ∧ in64 (E i).l) ∧ in64 t) (hW : W.length ≤ 1048576) (hn : n ≤ 1048576) :
    Calls Try.prog 19 #[v, .int .i64 i] w fun e w' => ∃ v', e = .returned (.tuple #[v', .bool (hOkB W.length t n E && liveB n E i)]) ∧ HP w.heap.size w'.heap.size w' v' (if hOkB W.length t n E = true then W else []) (if hOkB W.length t n E = true then t else 0) (if hOkB W.length t n E = true then n else 0) (dropE n E i) ∧ Below w.heap.size w w' := by
  have CK : Hid (∀ W', Below w.heap.size w W' → Calls Try.prog 16 #[v] W' fun e w' => e = .returned (.bool (hOkB W.length t n E)) ∧ Below W'.heap.size W' w') := fun W' hb => heapOk_impl hS hS0 (h.keep hb) he hW hn
  have CC : Hid (∀ W', Below w.heap.size w W' → Calls Try.prog 45 #[v] W' fun e w' => ∃ v', e = .returned v' ∧ HP W'.heap.size w'.heap.size w' v' W t n E ∧ Below W'.heap.size W' w') := fun W' hb => heapCopy_impl (h.keep hb) hW hn
  obtain ⟨wa, wc, ca, cc, rfl, h1, h2, h3, h4⟩ := h
  clear h1 h2 h3 h4 he
  go_enter Try.func19, Try.ntmps19
  go_wp2_with fail
  generalize hV : (w.alloc (.cells #[.slice wa W.length wc, .int .i64 t, .slice ca n cc] 28)).alloc (.cells #[.slice none 0 0, .int .i64 0, .slice none 0 0] 28) = V
  have B1 : Hid (Below w.heap.size w V) := by rw [← hV]; exact bAlloc (bAlloc (Below.refl _ _) _) _
  have X1 : Hid (Box3 V w.heap.size (.slice wa W.length wc) (.int .i64 t) (.slice ca n cc) 28) := by rw [← hV]; exact (box3_new _ _ _ _ _).alloc _
  have Y1 : Hid (Box3 V (w.heap.size + 1) (.slice none 0 0) (.int .i64 0) (.slice none 0 0) 28) := by
    have := box3_new (w.alloc (.cells #[.slice wa W.length wc, .int .i64 t, .slice ca n cc] 28)) (.slice none 0 0) (.int .i64 0) (.slice none 0 0) 28
    show Box3 _ _ _ _ _ _
    rw [← hV]; simpa using this
  clear hV
  refine (CK.out _ B1.out).mono ?_
  rintro r w2 ⟨rfl, hb⟩
  have B2 : Hid (Below w.heap.size w w2) := bTrans B1.out hb
  have X2 : Hid (Box3 w2 w.heap.size (.slice wa W.length wc) (.int .i64 t) (.slice ca n cc) 28) := X1.out.keep hb
  have Y2 : Hid (Box3 w2 (w.heap.size + 1) (.slice none 0 0) (.int .i64 0) (.slice none 0 0) 28) := Y1.out.keep hb
  clear hb B1 X1 Y1
  by_cases kk : hOkB W.length t n E = true
  case neg =>
    have e1 : hOkB W.length t n E = false := by simpa using kk
    rw [e1]
    have r0 := Y2.out.c0
    have r1 := Y2.out.c1
    have r2 := Y2.out.c2
    have f0 := Y2.out.free 0
    have f1 := Y2.out.free 1
    have f2 := Y2.out.free 2
    go_wp2
    clear r0 r1 r2 f0 f1 f2
    generalize hZ : ((w2.setCell ⟨w.heap.size + 1, 0, none⟩ (.slice none 0 0)).setCell ⟨w.heap.size + 1, 1, none⟩ (.int .i64 0)).setCell ⟨w.heap.size + 1, 2, none⟩ (.slice none 0 0) = wz
    have YZ : Box3 wz (w.heap.size + 1) (.slice none 0 0) (.int .i64 0) (.slice none 0 0) 28 := by rw [← hZ]; exact ((Y2.out.set0 _).set1 _).set2 _
    have BZ : Below w.heap.size w wz := by rw [← hZ]; exact below_setCell (below_setCell (below_setCell B2.out (by omega) _ _) (by omega) _ _) (by omega) _ _
    have v0 := YZ.c0
    have v1 := YZ.c1
    have v2 := YZ.c2
    refine bodyPost_ret (v := .tuple #[.agg #[.slice none 0 0, .int .i64 0, .slice none 0 0], .bool false]) (by simp [results, Try.results19, go_sem, v0, v1, v2]) rfl ?_
    exact ⟨_, rfl, HP.zero _ _ BZ.size _ _, BZ⟩
  case pos =>
  have OK : Hid (hOk W.length t n E) := hOkB_iff.1 kk
  have x0 := X2.out.c0
  have x1 := X2.out.c1
  have x2 := X2.out.c2
  rw [kk]
  go_wp2_with fail
  refine (CC.out _ B2.out).mono ?_
  rintro r w3 ⟨v', rfl, hP, hb⟩
  have B3 : Hid (Below w.heap.size w w3) := bTrans B2.out hb
  have Y3 : Hid (Box3 w3 (w.heap.size + 1) (.slice none 0 0) (.int .i64 0) (.slice none 0 0) 28) := Y2.out.keep hb
  have L2 := Y2.out.lt
  have S3 := hb.size
  obtain ⟨x, z, M, rfl, m1, m2, hx, hz⟩ := hP
  obtain ⟨xa, xc, rfl, _⟩ := hx.ints
  obtain ⟨za, zc, rfl, _⟩ := hz.csI
  have PX : Hid (Piece w2.heap.size M w3 (.slice xa W.length xc) W) := hx
  have PZ : Hid (CPiece M w3.heap.size w3 (.slice za n zc) n E) := hz
  clear hb hx hz x0 x1 x2 B2 X2 Y2
  go_wp2_with fail
  generalize hV : w3.alloc (.cells #[.slice xa W.length xc, .int .i64 t, .slice za n zc] 28) = w4
  have B34 : Below w3.heap.size w3 w4 := by rw [← hV]; exact bAlloc (Below.refl _ _) _
  have Q4 : Hid (Box3 w4 w3.heap.size (.slice xa W.length xc) (.int .i64 t) (.slice za n zc) 28) := by rw [← hV]; exact box3_new _ _ _ _ _
  have Y4 : Hid (Box3 w4 (w.heap.size + 1) (.slice none 0 0) (.int .i64 0) (.slice none 0 0) 28) := Y3.out.keep B34
  have B4 : Hid (Below w.heap.size w w4) := bTrans B3.out B34
  have PX4 : Hid (Piece w2.heap.size M w4 (.slice xa W.length xc) W) := PX.out.keep B34
  have PZ4 : Hid (CPiece M w3.heap.size w4 (.slice za n zc) n E) := PZ.out.keep B34
  have S4 := Q4.out.lt
  clear hV B34 PX PZ Y3
  refine (drop_impl Q4.out PZ4.out (Nat.le_refl _) m2 OK.out.2.2.2.2.1 i hn).mono ?_
  rintro r w5 ⟨rfl, hQ, hZ5, hW5⟩
  have Q5 : Hid (Box3 w5 w3.heap.size (.slice xa W.length xc) (.int .i64 t) (.slice za n zc) 28) := hQ
  have Y5 : Hid (Box3 w5 (w.heap.size + 1) (.slice none 0 0) (.int .i64 0) (.slice none 0 0) 28) := Y4.out.win hW5 (by omega)
  have P5 : Hid (HP w2.heap.size w3.heap.size w5 (.agg #[.slice xa W.length xc, .int .i64 t, .slice za n zc]) W t n (dropE n E i)) := ⟨_, _, M, rfl, m1, m2, PX4.out.win hW5 (.inl (Nat.le_refl _)), hZ5⟩
  have B5 : Hid (Below w.heap.size w w5) := B4.out.trans (hW5.below (by omega) (by omega))
  have S5 := hW5.size
  clear hQ hZ5 hW5
  have q0 := Q5.out.c0
  have q1 := Q5.out.c1
  have q2 := Q5.out.c2
  generalize hLL : liveB n E i = LL
  have r0 := Y5.out.c0
  have r1 := Y5.out.c1
  have r2 := Y5.out.c2
  have f0 := Y5.out.free 0
  have f1 := Y5.out.free 1
  have f2 := Y5.out.free 2
  go_wp2
  clear r0 r1 r2 f0 f1 f2
  generalize hZ : ((w5.setCell ⟨w.heap.size + 1, 0, none⟩ (.slice xa W.length xc)).setCell ⟨w.heap.size + 1, 1, none⟩ (.int .i64 t)).setCell ⟨w.heap.size + 1, 2, none⟩ (.slice za n zc) = wz
  have YZ : Box3 wz (w.heap.size + 1) (.slice xa W.length xc) (.int .i64 t) (.slice za n zc) 28 := by rw [← hZ]; exact ((Y5.out.set0 _).set1 _).set2 _
  have WZ : Win (w.heap.size + 1) (w.heap.size + 1 + 1) w5 wz := by rw [← hZ]; exact ((win_setCell _ _ _ _).trans (win_setCell _ _ _ _)).trans (win_setCell _ _ _ _)
  have BZ : Below w.heap.size w wz := by rw [← hZ]; exact below_setCell (below_setCell (below_setCell B5.out (by omega) _ _) (by omega) _ _) (by omega) _ _
  have v0 := YZ.c0
  have v1 := YZ.c1
  have v2 := YZ.c2
  refine bodyPost_ret (v := .tuple #[.agg #[.slice xa W.length xc, .int .i64 t, .slice za n zc], .bool LL]) (by simp [results, Try.results19, go_sem, v0, v1, v2]) rfl ?_

  exact ⟨_, rfl, (P5.out.win WZ (.inr (by omega))).mono (by omega) (by have := WZ.size; omega), BZ⟩
end Go.Proofs.Ytmmjidhpmbcoiaa
namespace Go.Proofs
open Go.Shelf
def Try.sortL_ren : Go.Shelf.Ren := ⟨fun | 6 => 84 | 15 => 106 | 14 => 105 | 28 => 124 | 29 => 125 | 20 => 116 | 21 => 117 | 22 => 118 | 23 => 119 | 24 => 120 | 25 => 121 | 26 => 122 | 27 => 123 | 46 => 126 | 47 => 127 | 48 => 128 | 49 => 129 | 50 => 130 | 57 => 131 | n => n, fun | 22 => 25 | 24 => 3 | 25 => 99 | 3 => 3 | 39 => 110 | 0 => 0 | 53 => 133 | 55 => 135 | 4 => 4 | 46 => 127 | 45 => 126 | 50 => 70 | 5 => 5 | 9 => 9 | 66 => 136 | 70 => 140 | 76 => 142 | 77 => 143 | n => n, fun | n => n⟩
theorem Try.sortL : Go.Proofs.SlLaysF.n6 Try.prog Try.sortL_ren := {
  mixed := by kernel_rfl
  f6 := ⟨Try.f84.name, by decide, Try.func84.trans (congrArg some (by kernel_rfl))⟩
  f14 := ⟨Try.f105.name, by decide, Try.func105.trans (congrArg some (by kernel_rfl))⟩
  f15 := Try.func106.trans (congrArg some (by kernel_rfl))
  f20 := ⟨Try.f116.name, by decide, Try.func116.trans (congrArg some (by kernel_rfl))⟩
  f21 := ⟨Try.f117.name, by decide, Try.func117.trans (congrArg some (by kernel_rfl))⟩
  f22 := ⟨Try.f118.name, by decide, Try.func118.trans (congrArg some (by kernel_rfl))⟩
  f23 := ⟨Try.f119.name, by decide, Try.func119.trans (congrArg some (by kernel_rfl))⟩
  f24 := ⟨Try.f120.name, by decide, Try.func120.trans (congrArg some (by kernel_rfl))⟩
  f25 := ⟨Try.f121.name, by decide, Try.func121.trans (congrArg some (by kernel_rfl))⟩
  f26 := ⟨Try.f122.name, by decide, Try.func122.trans (congrArg some (by kernel_rfl))⟩
  f27 := ⟨Try.f123.name, by decide, Try.func123.trans (congrArg some (by kernel_rfl))⟩
  f28 := Try.func124.trans (congrArg some (by kernel_rfl))
  f29 := Try.func125.trans (congrArg some (by kernel_rfl))
  f46 := ⟨Try.f126.name, by decide, Try.func126.trans (congrArg some (by kernel_rfl))⟩
  f47 := Try.func127.trans (congrArg some (by kernel_rfl))
  f48 := Try.func128.trans (congrArg some (by kernel_rfl))
  f49 := ⟨Try.f129.name, by decide, Try.func129.trans (congrArg some (by kernel_rfl))⟩
  f50 := ⟨Try.f130.name, by decide, Try.func130.trans (congrArg some (by kernel_rfl))⟩
  f57 := ⟨Try.f131.name, by decide, Try.func131.trans (congrArg some (by kernel_rfl))⟩
  t0 := Try.underlying0
  a0 := Try.isAgg0
  z0 := Try.sizeOf0
  v0 := Try.zeroValue0
  t3 := Try.underlying3
  a3 := Try.isAgg3
  z3 := Try.sizeOf3
  v3 := Try.zeroValue3
  t4 := Try.underlying4
  a4 := Try.isAgg4
  z4 := Try.sizeOf4
  v4 := Try.zeroValue4
  t5 := Try.underlying5
  a5 := Try.isAgg5
  z5 := Try.sizeOf5
  v5 := Try.zeroValue5
  t9 := Try.underlying9
  a9 := Try.isAgg9
  z9 := Try.sizeOf9
  v9 := Try.zeroValue9
  t22 := Try.underlying25
  a22 := Try.isAgg25
  z22 := Try.sizeOf25
  v22 := Try.zeroValue25
  a24 := Try.isAgg3
  z24 := Try.sizeOf3
  t25 := Try.underlying99
  a25 := Try.isAgg99
  z25 := Try.sizeOf99
  v25 := Try.zeroValue99
  t39 := Try.underlying110
  a39 := Try.isAgg110
  z39 := Try.sizeOf110
  v39 := Try.zeroValue110
  t45 := Try.underlying126
  a45 := Try.isAgg126
  z45 := Try.sizeOf126
  v45 := Try.zeroValue126
  t46 := Try.underlying127
  a46 := Try.isAgg127
  z46 := Try.sizeOf127
  v46 := Try.zeroValue127
  t50 := Try.underlying70
  a50 := Try.isAgg70
  z50 := Try.sizeOf70
  v50 := Try.zeroValue70
  t53 := Try.underlying133
  a53 := Try.isAgg133
  z53 := Try.sizeOf133
  v53 := Try.zeroValue133
  t55 := Try.underlying135
  a55 := Try.isAgg135
  z55 := Try.sizeOf135
  v55 := Try.zeroValue135
  t66 := Try.underlying136
  a66 := Try.isAgg136
  z66 := Try.sizeOf136
  v66 := Try.zeroValue136
  t70 := Try.underlying140
  a70 := Try.isAgg140
  z70 := Try.sizeOf140
  v70 := Try.zeroValue140
  t76 := Try.underlying142
  a76 := Try.isAgg142
  z76 := Try.sizeOf142
  v76 := Try.zeroValue142
  t77 := Try.underlying143
  a77 := Try.isAgg143
  z77 := Try.sizeOf143
  v77 := Try.zeroValue143 }
end Go.Proofs
namespace Go.Proofs.Ytmmjidhpmbcoiaa
open Go.RowKit Go.Sort Go.Shelf
theorem sorts_by : SortsBy := fun _ _ cf hO g cb blk cap d w eg hc hH hb hl => Any.slices_SortFunc Try.sortL encF (fun _ => rfl) cf hO g cb blk 0 cap d w eg hc hH hb hl
theorem sorts_none : SortsNone := fun p cap fv w => AnyF.slices_SortFunc_none (P := Try.prog) (ρ := Try.sortL_ren) { Try.sortL with } p cap fv w
end Go.Proofs.Ytmmjidhpmbcoiaa
namespace Go.Proofs.Ytmmjidhpmbcoiaa
open Go.RowKit
set_option linter.unusedVariables false
set_option linter.unusedSimpArgs false
theorem ZCap.set {w : World} {z : Value} {n : Nat} (h : ZCap w z n) (g o : Nat) (u : Value) : ZCap (w.setCell ⟨g, o, none⟩ u) z n := by
  obtain ⟨a, c, e, h⟩ := h
  exact ⟨a, c, e, h.set g o u⟩
theorem ZCap.nil (w : World) : ZCap w (.slice none 0 0) 0 := ⟨_, _, rfl, .inl rfl⟩
theorem ZCap.capH {w : World} {x y z : Value} {n : Nat} (h : ZCap w z n) : CapH w (.agg #[x, y, z]) n := by
  obtain ⟨a, c, rfl, h⟩ := h
  exact ⟨x, y, a, c, rfl, h⟩
theorem Cap.win {w w' : World} {a : Option Addr} {n c B C : Nat} {B' C' : Nat} (h : Cap w a n c) (hp : ∃ g, a = some ⟨g, 0, none⟩ ∧ B ≤ g ∧ g < C) (hw : Win B' C' w w') (hd : C ≤ B' ∨ C' ≤ B) : Cap w' a n c := by
  rcases h with h | ⟨hn, g, cur, ty, e, hg, hs⟩
  · exact .inl h
  · obtain ⟨g', e', h1, h2⟩ := hp
    rw [e] at e'
    cases e'
    exact .inr ⟨hn, g, cur, ty, e, by rw [hw.block g (lt_of_heapA hg) (by omega)]; exact hg, hs⟩
theorem ZCap.win {w w' : World} {z : Value} {n B C B' C' : Nat} {E : Nat → Cel} (h : ZCap w z n) (hp : CPiece B C w z n E) (hw : Win B' C' w w') (hd : C ≤ B' ∨ C' ≤ B) : ZCap w' z n := by
  obtain ⟨a, c, rfl, h⟩ := h
  refine ⟨a, c, rfl, ?_⟩
  obtain ⟨a', c', e, _, hp⟩ := hp
  cases e
  rcases hp with rfl | ⟨g, e, h1, h2, _⟩
  · rcases h with h | ⟨hn, _⟩
    · exact .inl h
    · omega
  · exact h.win ⟨g, e, h1, h2⟩ hw hd
/-- A list of cells grows by one, and the room of the new one is there, too. -/
theorem growC3 {B C : Nat} {w : World} {a : Option Addr} {n c : Nat} {E : Nat → Cel} (h : CPiece B C w (.slice a n c) n E) (hc : Cap w a n c) (hn : n ≤ 1048576) (hC : C ≤ w.heap.size) (z : Cel) :
    ∃ a' c' B' C' w', (∀ ty, (Builtin.append_ #[26, 26] ty #[.slice a n c, .slice (some ⟨w.heap.size, 0, none⟩) 1 1]).run Try.prog (w.alloc (.cells #[.int .i64 z.f, .int .i64 z.l, .bool z.v] 47)) = .ok (.slice a' (n + 1) c') w') ∧
      CPiece B' C' w' (.slice a' (n + 1) c') (n + 1) (up E n z) ∧ ((B' = B ∧ C' = C) ∨ (w.heap.size < B' ∧ C' = w'.heap.size)) ∧ Win B C w w' ∧ Cap w' a' (n + 1) c' := by
  have hi := info_cell
  cases hq : Try.prog.info? 47 with
  | none => rw [hq] at hi; cases hi
  | some i =>
    rw [hq] at hi
    simp at hi
    obtain ⟨z1, z2, z3⟩ := hi
    have hA := heap_alloc_new w (.cells #[.int .i64 z.f, .int .i64 z.l, .bool z.v] 47)
    have hBw := bAlloc (Below.refl w.heap.size w) (.cells #[.int .i64 z.f, .int .i64 z.l, .bool z.v] 47)
    have hsz : (w.alloc (.cells #[.int .i64 z.f, .int .i64 z.l, .bool z.v] 47)).heap.size = w.heap.size + 1 := by simp
    generalize w.alloc (.cells #[.int .i64 z.f, .int .i64 z.l, .bool z.v] 47) = V at *
    have hzb : CBlk V w.heap.size 1 (fun _ => z) := ⟨_, _, hA, fun i hi => by
      obtain rfl : i = 0 := by omega
      exact ⟨rfl, rfl, rfl⟩⟩
    have hz := hzb.csA
    have hs := src_cells hz 1
    rw [← z2] at hs
    have e1 : cvs (fun _ => z) 1 = [.int .i64 z.f, .int .i64 z.l, .bool z.v] := rfl
    rw [e1] at hs
    by_cases hr : n + 1 ≤ c
    · rcases hc with hc | ⟨h0, g, cur, ty, rfl, hg, hcs⟩
      · omega
      have hgV : V.heap[g]? = some (.cells cur ty (0, 0)) := by rw [hBw.block g (lt_of_heapA hg)]; exact hg
      obtain ⟨a1, c1, e, hle, h⟩ := h
      cases e
      rcases h with h | ⟨g1, e, b1, b2, hb⟩
      · omega
      cases e
      refine ⟨_, c, B, C, _, fun ty' => run_append_room_src V 26 26 ty' 47 i Try.underlying26 hq g 0 n c _ 1 _ hs hr (fun j hj => ?_) (fun j hj => free_at hgV _), ?_, .inl ⟨rfl, rfl⟩, ?_, ?_⟩
      · rw [z2]
        have : 0 + n * 3 + j < cur.size := by simp at hj; omega
        rw [cell_at hgV (Array.getElem?_eq_getElem this)]
        rfl
      · rw [z2, Nat.zero_add]
        exact ⟨_, _, rfl, hr, .inr ⟨g, rfl, b1, b2, CBlk.push hgV (hb.keep hBw) (by omega) z⟩⟩
      · rw [z2, Nat.zero_add]
        have hw := set3_win V g n (.int .i64 z.f) (.int .i64 z.l) (.bool z.v)
        exact ⟨by rw [← hBw.os]; exact hw.os, by rw [← hBw.tape]; exact hw.tape, by rw [← hBw.output]; exact hw.output, Nat.le_trans hBw.size hw.size, fun k hk hd => (hw.block k (Nat.lt_of_lt_of_le hk hBw.size) (by omega)).trans (hBw.block k hk)⟩
      · rw [z2, Nat.zero_add]
        have hq : Cap V (some ⟨g, 0, none⟩) (n + 1) c := .inr ⟨by omega, g, cur, ty, rfl, hgV, hcs⟩
        exact ((hq.set g (n * 3) _).set g (n * 3 + 1) _).set g (n * 3 + 2) _
    · have hcs := ((h.keep hBw).csI)
      obtain ⟨a1, c1, e, hle, hcA⟩ := hcs
      cases e
      obtain rfl : c = n := by omega
      refine ⟨_, _, V.heap.size, _, _, fun ty' => run_append_grow_src V 26 26 ty' 47 i _ Try.underlying26 hq z1 a c c (cvs E c) (by rw [z2]; exact (src_cells hcA c).cellsD) _ 1 _ hs (by omega) (by omega) (growslice_fits (by omega) (by rw [z3]; omega)), ⟨_, _, rfl, grownCap_ge _ _ _ _, .inr ⟨V.heap.size, rfl, Nat.le_refl _, by simp, cblk_of (heap_alloc_new V.drew _) fun j hj => ?_⟩⟩, .inr ⟨by omega, rfl⟩, ?_, .inr ⟨by omega, V.heap.size, _, _, rfl, heap_alloc_new V.drew _, ?_⟩⟩
      · have hl := cvs_len E c
        have e9 : cvs (up E c z) (c + 1) = cvs E c ++ [.int .i64 z.f, .int .i64 z.l, .bool z.v] := by
          simp only [cvs, up_at]
          rw [cvs_congr (fun i hi => up_ne E z (by omega))]
        rw [e9, Array.getElem?_append_left (by simp [hl]; omega)]
        simp
      · have hb2 : Below V.heap.size V (V.drew.alloc (.cells ((cvs E c ++ [Value.int .i64 z.f, .int .i64 z.l, .bool z.v]).toArray ++ Builtin.zeroCells (Value.agg #[.int .i64 0, .int .i64 0, .bool false]).cells (grownCap V (c + 1) c 47 - (c + 1))) 47)) := bAlloc ((Below.refl _ _).drew) _
        have hb3 := bTrans hBw hb2
        exact ⟨hb3.os, hb3.tape, hb3.output, hb3.size, fun k hk _ => hb3.block k hk⟩
      · have hl := cvs_len E c
        have hge := grownCap_ge V (c + 1) c 47
        have e3 : (Value.agg #[.int .i64 0, .int .i64 0, .bool false]).cells.size = 3 := rfl
        simp only [Array.size_append, List.size_toArray, size_zeroCells, List.length_append, hl, e3, List.length_cons, List.length_nil]
        omega
/-- A heap in a box at work, the room of its cells beside it. -/
def HB2 (L : Nat) (F : Nat → Prop) (g : Nat) (w : World) (x z : Value) (W : List Int) (t : Int) (n : Nat) (E : Nat → Cel) : Prop := HB L F g w x z W t n E ∧ ZCap w z n
section
variable {L g : Nat} {F : Nat → Prop} {w w' : World} {x z : Value} {W : List Int} {t : Int} {n : Nat} {E : Nat → Cel}
theorem HB2.box (h : HB2 L F g w x z W t n E) : Box3 w g x (.int .i64 t) z 28 := h.1.box
theorem HB2.le (h : HB2 L F g w x z W t n E) : L ≤ g ∧ g < w.heap.size := h.1.le
theorem HB2.free (h : HB2 L F g w x z W t n E) : ∀ k, F k → k < w.heap.size ∧ k ≠ g := h.1.free
theorem HB2.keep (h : HB2 L F g w x z W t n E) (hb : Below w.heap.size w w') : HB2 L F g w' x z W t n E := ⟨h.1.keep hb, h.2.keep hb⟩
theorem HB2.other (h : HB2 L F g w x z W t n E) {A : Nat} (hA : F A) (hw : Win A (A + 1) w w') : HB2 L F g w' x z W t n E := by
  refine ⟨h.1.other hA hw, ?_⟩
  obtain ⟨⟨B1, C1, B2, C2, h1, h2, h3, h4, h5, hF, h6, h7⟩, hz⟩ := h
  have := hF A hA
  exact hz.win h7 hw (by omega)
theorem HB2.hx (h : HB2 L F g w x z W t n E) : HX L w.heap.size w (.agg #[x, .int .i64 t, z]) W t n E := h.1.hx
theorem HB2.lay {Lx C : Nat} (h : HX Lx C w (.agg #[x, .int .i64 t, z]) W t n E) (hz : ZCap w z n) (hb : Box3 w g x (.int .i64 t) z 28) (hC : C ≤ w.heap.size) (hg : g < Lx ∨ C ≤ g) (hL : L ≤ g ∧ L ≤ Lx) (hF : ∀ k, F k → k < w.heap.size ∧ k ≠ g ∧ (k < Lx ∨ C ≤ k)) : HB2 L F g w x z W t n E := ⟨HB.lay h hb hC hg hL hF, hz⟩
theorem HB2.top (h : HB2 L F g w x z W t n E) (t' : Int) : HB2 L F g (w.setCell ⟨g, 1, none⟩ (.int .i64 t')) x z W t' n E := ⟨h.1.top t', h.2.set _ _ _⟩
theorem HB2.word {xa : Option Addr} {xc : Nat} (h : HB2 L F g w (.slice xa W.length xc) z W t n E) {k : Nat} (hk : k < W.length) :
    ∃ gw off, xa = some ⟨gw, off, none⟩ ∧ L ≤ gw ∧ (∀ k, F k → k ≠ gw) ∧ w.cell? ⟨gw, off + k, none⟩ = some (.int .i64 (W.getD k 0)) ∧ w.frozen? ⟨gw, off + k, none⟩ = false ∧ ∀ u : Int, HB2 L F g (w.setCell ⟨gw, off + k, none⟩ (.int .i64 u)) (.slice xa W.length xc) z (W.set k u) t n E := by
  obtain ⟨gw, off, e, h1, h2, h3, h4, h5⟩ := h.1.word hk
  exact ⟨gw, off, e, h1, h2, h3, h4, fun u => ⟨h5 u, h.2.set _ _ _⟩⟩
theorem HB2.cell {za : Option Addr} {zc : Nat} (h : HB2 L F g w x (.slice za n zc) W t n E) {k : Nat} (hk : k < n) :
    ∃ gc, za = some ⟨gc, 0, none⟩ ∧ L ≤ gc ∧ (∀ k, F k → k ≠ gc) ∧ CBlk w gc n E ∧ ∀ c : Cel, HB2 L F g (((w.setCell ⟨gc, k * 3, none⟩ (.int .i64 c.f)).setCell ⟨gc, k * 3 + 1, none⟩ (.int .i64 c.l)).setCell ⟨gc, k * 3 + 2, none⟩ (.bool c.v)) x (.slice za n zc) W t n (up E k c) := by
  obtain ⟨gc, e, h1, h2, h3, h4⟩ := h.1.cell hk
  exact ⟨gc, e, h1, h2, h3, fun c => ⟨h4 c, ((h.2.set _ _ _).set _ _ _).set _ _ _⟩⟩
theorem HB2.csA {za : Option Addr} {zc : Nat} (h : HB2 L F g w x (.slice za n zc) W t n E) : CsA w za n E := h.1.csA
theorem HB2.grow {za : Option Addr} {zc : Nat} (h : HB2 L F g w x (.slice za n zc) W t n E) (hn : n ≤ 1048576) (hL : L ≤ w.heap.size) (u : Cel) :
    ∃ a' c' w', (∀ ty, (Builtin.append_ #[26, 26] ty #[.slice za n zc, .slice (some ⟨w.heap.size, 0, none⟩) 1 1]).run Try.prog (w.alloc (.cells #[.int .i64 u.f, .int .i64 u.l, .bool u.v] 47)) = .ok (.slice a' (n + 1) c') w') ∧
      Box3 w' g x (.int .i64 t) (.slice za n zc) 28 ∧ HB2 L F g (w'.setCell ⟨g, 2, none⟩ (.slice a' (n + 1) c')) x (.slice a' (n + 1) c') W t (n + 1) (up E n u) ∧ Below L w w' ∧ ∀ k, F k → w'.heap[k]? = w.heap[k]? := by
  obtain ⟨⟨B1, C1, B2, C2, h1, h2, h3, h4, h5, hF, h6, h7⟩, ⟨a, c, e, hcap⟩⟩ := h
  cases e
  obtain ⟨a', c', B', C', w', hr, hp, hd, hw, hz⟩ := growC3 h7 hcap hn (by omega) u
  have hs := hw.size
  have hg := h1.lt
  have b1 : Box3 w' g x (.int .i64 t) (.slice za n zc) 28 := h1.win hw (by omega)
  have hs2 := win_setCell w' g 2 (.slice a' (n + 1) c')
  have hs3 := hs2.size
  have hC' : C' ≤ w'.heap.size := by omega
  refine ⟨a', c', w', hr, b1, ⟨⟨B1, C1, B', C', b1.set2 _, by omega, by omega, by omega, by omega, fun k hk => by have := hF k hk; omega, (h6.win hw (by omega)).win hs2 (by omega), hp.win hs2 (by omega)⟩, ⟨a', c', rfl, hz.set _ _ _⟩⟩, hw.below (by omega) hL, fun k hk => hw.block k (hF k hk).1 (by have := hF k hk; omega)⟩
end
/-- A heap in memory of its own that has none of the blocks P, the room of its cells beside it. -/
def HXZ (P : Nat → Prop) (B C : Nat) (w : World) (v : Value) (W : List Int) (t : Int) (n : Nat) (E : Nat → Cel) : Prop := HXE P B C w v W t n E ∧ CapH w v n
section
variable {P : Nat → Prop} {B C : Nat} {w w' : World} {v : Value} {W : List Int} {t : Int} {n : Nat} {E : Nat → Cel}
theorem HXZ.hx (h : HXZ P B C w v W t n E) : HX B C w v W t n E := h.1.hx
theorem HXZ.less {P' : Nat → Prop} (h : HXZ P B C w v W t n E) (hP : ∀ k, P' k → P k) : HXZ P' B C w v W t n E := ⟨h.1.less hP, h.2⟩
theorem HXZ.mono {B' C' : Nat} (h : HXZ P B C w v W t n E) (hB : B' ≤ B) (hC : C ≤ C') : HXZ P B' C' w v W t n E := by
  obtain ⟨⟨x, z, B1, C1, B2, C2, e, m, d, hp, h1, h2⟩, hz⟩ := h
  exact ⟨⟨x, z, B1, C1, B2, C2, e, by omega, d, hp, h1, h2⟩, hz⟩
theorem HXZ.win {A : Nat} (h : HXZ P B C w v W t n E) (hA : P A ∨ A < B ∨ C ≤ A) (hw : Win A (A + 1) w w') : HXZ P B C w' v W t n E := by
  obtain ⟨⟨x, z, B1, C1, B2, C2, rfl, m, d, hp, h1, h2⟩, hz⟩ := h
  have hq : (A < B1 ∨ C1 ≤ A) ∧ (A < B2 ∨ C2 ≤ A) := by
    rcases hA with hA | hA
    · exact hp A hA
    · omega
  exact ⟨⟨x, z, B1, C1, B2, C2, rfl, m, d, hp, h1.win hw (by omega), h2.win hw (by omega)⟩, ((HX.zcap (B := 0) (C := 0) (W := W) (t := t) (E := E) hz).win h2 hw (by omega)).capH⟩
theorem HXZ.keep (h : HXZ P B C w v W t n E) (hb : Below w.heap.size w w') : HXZ P B C w' v W t n E := ⟨h.1.keep hb, h.2.keep hb⟩
end
theorem HB2.hxe {L g : Nat} {F : Nat → Prop} {w : World} {x z : Value} {W : List Int} {t : Int} {n : Nat} {E : Nat → Cel} (h : HB2 L F g w x z W t n E) : HXZ F L w.heap.size w (.agg #[x, .int .i64 t, z]) W t n E := ⟨h.1.hxe, h.2.capH⟩
theorem HP.hxz {B C : Nat} {w : World} {v : Value} {W : List Int} {t : Int} {n : Nat} {E : Nat → Cel} (h : HP B C w v W t n E) (hc : CapH w v n) : HXZ (fun _ => False) B C w v W t n E := by
  obtain ⟨x, z, B1, C1, B2, C2, e, m, d, h1, h2⟩ := h.hx
  exact ⟨⟨x, z, B1, C1, B2, C2, e, m, d, fun k hk => hk.elim, h1, h2⟩, hc⟩
theorem HX.hxz {B C : Nat} {w : World} {v : Value} {W : List Int} {t : Int} {n : Nat} {E : Nat → Cel} (h : HX B C w v W t n E) (hc : CapH w v n) : HXZ (fun _ => False) B C w v W t n E := by
  obtain ⟨x, z, B1, C1, B2, C2, e, m, d, h1, h2⟩ := h
  exact ⟨⟨x, z, B1, C1, B2, C2, e, m, d, fun k hk => hk.elim, h1, h2⟩, hc⟩
end Go.Proofs.Ytmmjidhpmbcoiaa
namespace Go.Proofs.Ytmmjidhpmbcoiaa
open Go.RowKit
set_option linter.unusedVariables false
set_option linter.unusedSimpArgs false
/-- What l13Put answers. -/
def PutPost2 (L C : Nat) (w : World) (W : List Int) (t : Int) (n : Nat) (E : Nat → Cel) (ws : List Int) (e : Ending) (w' : World) : Prop :=
  ∃ xa xm xc t' za zn zc, e = .returned (.tuple #[.agg #[.slice xa xm xc, .int .i64 t', .slice za zn zc], .int .i64 (if putB W t n E ws = true then (putH W t n E ws : Int) else -1), .bool (putB W t n E ws)]) ∧ (putB W t n E ws = true → HXZ (fun k => C ≤ k ∧ k < w.heap.size) L w'.heap.size w' (.agg #[.slice xa xm xc, .int .i64 t', .slice za zn zc]) (putW W t n E ws) (putT W t n E ws) (putN W t n E ws) (putE W t n E ws)) ∧ WW L C w w'
set_option maxRecDepth 20000 in
set_option maxHeartbeats 16000000 in
/-- l13Put. -/
theorem put_spec2 {L C : Nat} {w : World} {v u : Value} {W : List Int} {t : Int} {n : Nat} {E : Nat → Cel} {s d : List Int} (h : HX L C w v W t n E) (hC : C ≤ w.heap.size) (hc : CapH w v n) (hk : hOkB W.length t n E = true) (hL : L ≤ w.heap.size) (ha : ArrI w u s d) (hsd : s.length + d.length ≤ 1000000) :
    Calls Try.prog 55 #[v, u] w fun e w' => PutPost2 L C w W t n E (wsA s d) e w' := by
  obtain ⟨xa, xc, za, zc, rfl⟩ := h.form
  have HH : Hid (HX L C w (.agg #[.slice xa W.length xc, .int .i64 t, .slice za n zc]) W t n E) := h
  have HC : Hid (CapH w (.agg #[.slice xa W.length xc, .int .i64 t, .slice za n zc]) n) := hc
  have HK : Hid (hOkB W.length t n E = true) := hk
  have HL : Hid (L ≤ w.heap.size) := hL
  have CW : Hid (∀ V, Below w.heap.size w V → Calls Try.prog 94 #[u] V fun e w' => ∃ a c, e = .returned (.slice a (wsA s d).length c) ∧ Piece V.heap.size w'.heap.size w' (.slice a (wsA s d).length c) (wsA s d) ∧ Below V.heap.size V w') := fun V hb => words_spec (ha.keep hb) hsd
  obtain ⟨sa, sc, da, dc, rfl, _⟩ := ha
  have LW : Hid ((wsA s d).length ≤ 1000001) := by show _ ≤ _; rw [wsA_len]; omega
  obtain ⟨ok1, ok2, ok3, ok4⟩ : W.length ≤ 6000 ∧ 0 ≤ t ∧ t ≤ W.length ∧ n ≤ 200 := by have := hOkB_iff.1 hk; exact ⟨this.1, this.2.1, this.2.2.1, this.2.2.2.1⟩
  generalize wsA s d = ws at *
  clear h hc hk hL
  go_enter Try.func55, Try.ntmps55
  go_wp2_with fail
  generalize hV : ((w.alloc (.cells #[.slice xa W.length xc, .int .i64 t, .slice za n zc] 28)).alloc (.cells #[.slice sa s.length sc, .slice da d.length dc] 32)).alloc (.cells #[.slice none 0 0, .int .i64 0, .slice none 0 0] 28) = V
  have B1 : Hid (Below w.heap.size w V) := by rw [← hV]; exact bAlloc (bAlloc (bAlloc (Below.refl _ _) _) _) _
  have SV : V.heap.size = w.heap.size + 1 + 1 + 1 := by rw [← hV]; simp
  have X1 : Hid (Box3 V w.heap.size (.slice xa W.length xc) (.int .i64 t) (.slice za n zc) 28) := by rw [← hV]; exact ((box3_new _ _ _ _ _).alloc _).alloc _
  have Y1 : Hid (Box3 V (w.heap.size + 1 + 1) (.slice none 0 0) (.int .i64 0) (.slice none 0 0) 28) := by
    have := box3_new ((w.alloc (.cells #[.slice xa W.length xc, .int .i64 t, .slice za n zc] 28)).alloc (.cells #[.slice sa s.length sc, .slice da d.length dc] 32)) (.slice none 0 0) (.int .i64 0) (.slice none 0 0) 28
    show Box3 _ _ _ _ _ _
    rw [← hV]; simpa using this
  clear hV
  refine (CW.out _ B1.out).mono ?_
  rintro r w2 ⟨pa, pc, rfl, hP, hb⟩
  have b2 : Below w.heap.size w w2 := bTrans B1.out hb
  have B2 : Hid (WW L C w w2) := WW.of b2 HL.out
  obtain ⟨F, hF⟩ : ∃ F : Nat → Prop, F = (fun k => k = w.heap.size + 1 + 1 ∨ (V.heap.size ≤ k ∧ k < w2.heap.size) ∨ (C ≤ k ∧ k < w.heap.size)) := ⟨_, rfl⟩
  obtain ⟨P1, hP1⟩ : ∃ P1, P1 = V.heap.size := ⟨_, rfl⟩
  obtain ⟨P2, hP2⟩ : ∃ P2, P2 = w2.heap.size := ⟨_, rfl⟩
  have PW2 : Hid (Piece P1 P2 w2 (.slice pa ws.length pc) ws) := by rw [hP1, hP2]; exact hP
  have FR : Hid (F (w.heap.size + 1 + 1)) := by rw [hF]; exact .inl rfl
  have FP : Hid (∀ k, P1 ≤ k → k < P2 → F k) := fun k h1 h2 => by rw [hF]; exact .inr (.inl ⟨by omega, by omega⟩)
  have FC : Hid (∀ k, C ≤ k → k < w.heap.size → F k) := fun k h1 h2 => by rw [hF]; exact .inr (.inr ⟨h1, h2⟩)
  have hs2 := hb.size
  have hl0 := HL.out
  have H2 : Hid (HB2 L F w.heap.size w2 (.slice xa W.length xc) (.slice za n zc) W t n E) := HB2.lay (HH.out.keep b2) ((HX.zcap (B := 0) (C := 0) (W := W) (t := t) (E := E) HC.out).keep b2) (X1.out.keep hb) (by have := b2.size; omega) (.inr hC) (by omega) (fun k hk => by rw [hF] at hk; rcases hk with rfl | hk | hk <;> omega)
  have Z2 : Hid (ZCap w2 (.slice za n zc) n) := (HX.zcap (B := 0) (C := 0) (W := W) (t := t) (E := E) HC.out).keep b2
  have Y2 : Hid (Box3 w2 (w.heap.size + 1 + 1) (.slice none 0 0) (.int .i64 0) (.slice none 0 0) 28) := Y1.out.keep hb
  have FB : Hid (∀ k, F k → k < w2.heap.size ∧ k ≠ w.heap.size) := H2.out.free
  clear hP hb b2 X1 Y1 CW HH HC hF hs2 hl0 hP1
  have PB : Hid (putB W t n E ws = (decide ((ws.length : Int) ≤ (qW W t n E ws).length - qT W t n E ws) && decide (putH W t n E ws < 200))) := rfl
  have PH : Hid (putH W t n E ws = lead (fun i => (qE W t n E ws i).v) n) := rfl
  have PWd : Hid (putW W t n E ws = pst (qW W t n E ws) (qT W t n E ws).toNat ws ws.length) := rfl
  have PT : Hid (putT W t n E ws = qT W t n E ws + ws.length) := rfl
  have PN : Hid (putN W t n E ws = if putH W t n E ws = n then n + 1 else n) := rfl
  have PE : Hid (putE W t n E ws = up (qE W t n E ws) (putH W t n E ws) ⟨qT W t n E ws, ws.length, true⟩) := rfl
  have QB := q_bd (ws := ws) HK.out
  have hwr : IntKind.i64.wrap ((W.length : Int) - t) = (W.length : Int) - t := by rw [IntKind.wrap_i64]; omega
  have x0 := H2.out.box.c0
  have x1 := H2.out.box.c1
  go_upto_if 20 with fail
  obtain ⟨q, hq⟩ : ∃ q, q = decide ((W.length : Int) - t < (ws.length : Int)) := ⟨_, rfl⟩
  rw [← hq]
  go_cut [] from 21 (fun w' => ∃ (xa : Option Addr) (xc : Nat) (za : Option Addr) (zc : Nat), HB2 L F w.heap.size w' (.slice xa (qW W t n E ws).length xc) (.slice za n zc) (qW W t n E ws) (qT W t n E ws) n (qE W t n E ws) ∧ ZCap w' (.slice za n zc) n ∧ Piece P1 P2 w' (.slice pa ws.length pc) ws ∧ Box3 w' (w.heap.size + 1 + 1) (.slice none 0 0) (.int .i64 0) (.slice none 0 0) 28 ∧ WW L C w w')
  case first =>
    cases q
    · have hr : (ws.length : Int) ≤ (W.length : Int) - t := by have := of_decide_eq_false hq.symm; omega
      have e1 : qW W t n E ws = W := if_pos hr
      have e2 : qT W t n E ws = t := if_pos hr
      have e3 : qE W t n E ws = E := if_pos hr
      clear hq
      go_wp2_with fail
      go_meet
      case rel => rw [e1, e2, e3]; exact ⟨xa, xc, za, zc, H2.out, Z2.out, PW2.out, Y2.out, B2.out⟩
    · have hr : ¬ ((ws.length : Int) ≤ (W.length : Int) - t) := by have := of_decide_eq_true hq.symm; omega
      have e1 : qW W t n E ws = packW W t n E := if_neg hr
      have e2 : qT W t n E ws = packT W t n E := if_neg hr
      have e3 : qE W t n E ws = packE E n := if_neg hr
      clear hq
      have x2 := H2.out.box.c2
      go_wp2_with fail
      refine (pack_specH2 H2.out.hx.hi HK.out).mono ?_
      rintro r w3 ⟨v3, rfl, hX, hcap, hb⟩
      obtain ⟨ya, yc, ua, uc, rfl⟩ := hX.form
      have hg3 := H2.out.box.keep hb
      have f0 := hg3.free 0
      have f1 := hg3.free 1
      have f2 := hg3.free 2
      have c0 := hg3.c0
      have c1 := hg3.c1
      have c2 := hg3.c2
      have hs3 := hb.size
      have hle := H2.out.le
      have hl0 := HL.out
      have wz : Win w.heap.size (w.heap.size + 1) w3 (((w3.setCell ⟨w.heap.size, 0, none⟩ (.slice ya (packW W t n E).length yc)).setCell ⟨w.heap.size, 1, none⟩ (.int .i64 (packT W t n E))).setCell ⟨w.heap.size, 2, none⟩ (.slice ua n uc)) := ((win_setCell _ _ _ _).trans (win_setCell _ _ _ _)).trans (win_setCell _ _ _ _)
      have sz : (((w3.setCell ⟨w.heap.size, 0, none⟩ (.slice ya (packW W t n E).length yc)).setCell ⟨w.heap.size, 1, none⟩ (.int .i64 (packT W t n E))).setCell ⟨w.heap.size, 2, none⟩ (.slice ua n uc)).heap.size = w3.heap.size := by simp [World.setCell]
      have Z4 : Hid (ZCap (((w3.setCell ⟨w.heap.size, 0, none⟩ (.slice ya (packW W t n E).length yc)).setCell ⟨w.heap.size, 1, none⟩ (.int .i64 (packT W t n E))).setCell ⟨w.heap.size, 2, none⟩ (.slice ua n uc)) (.slice ua n uc) n) := by
        obtain ⟨a, c, e, h⟩ := HX.zcap (B := 0) (C := 0) (W := W) (t := t) (E := E) hcap
        exact ⟨a, c, e, ((h.set _ _ _).set _ _ _).set _ _ _⟩
      have H4 : Hid (HB2 L F w.heap.size (((w3.setCell ⟨w.heap.size, 0, none⟩ (.slice ya (packW W t n E).length yc)).setCell ⟨w.heap.size, 1, none⟩ (.int .i64 (packT W t n E))).setCell ⟨w.heap.size, 2, none⟩ (.slice ua n uc)) (.slice ya (packW W t n E).length yc) (.slice ua n uc) (packW W t n E) (packT W t n E) n (packE E n)) := HB2.lay (hX.win wz (.inr (by omega))) Z4.out (((hg3.set0 _).set1 _).set2 _) (by omega) (.inl hle.2) ⟨by omega, by omega⟩ (fun k hk => by have := FB.out k hk; omega)
      have P4 : Hid (Piece P1 P2 (((w3.setCell ⟨w.heap.size, 0, none⟩ (.slice ya (packW W t n E).length yc)).setCell ⟨w.heap.size, 1, none⟩ (.int .i64 (packT W t n E))).setCell ⟨w.heap.size, 2, none⟩ (.slice ua n uc)) (.slice pa ws.length pc) ws) := (PW2.out.keep hb).stay fun k h1 h2 => wz.block k (by have := (FB.out k (FP.out k h1 h2)).1; omega) (by have := (FB.out k (FP.out k h1 h2)).2; omega)
      have Y4 : Hid (Box3 (((w3.setCell ⟨w.heap.size, 0, none⟩ (.slice ya (packW W t n E).length yc)).setCell ⟨w.heap.size, 1, none⟩ (.int .i64 (packT W t n E))).setCell ⟨w.heap.size, 2, none⟩ (.slice ua n uc)) (w.heap.size + 1 + 1) (.slice none 0 0) (.int .i64 0) (.slice none 0 0) 28) := (Y2.out.keep hb).win wz (.inr (by omega))
      have B4 : Hid (WW L C w (((w3.setCell ⟨w.heap.size, 0, none⟩ (.slice ya (packW W t n E).length yc)).setCell ⟨w.heap.size, 1, none⟩ (.int .i64 (packT W t n E))).setCell ⟨w.heap.size, 2, none⟩ (.slice ua n uc))) := (B2.out.keep hb HL.out).win wz HL.out HL.out (.inr (Nat.le_refl _))
      clear hX hcap hb hg3 wz sz hs3 hle hl0
      go_wp2_with fail
      go_meet
      case rel => rw [e1, e2, e3]; exact ⟨ya, yc, ua, uc, H4.out, Z4.out, P4.out, Y4.out, B4.out⟩
  obtain ⟨w4, hwc⟩ : ∃ x, x = wc := ⟨_, rfl⟩
  subst hwc
  clear H2 Z2 Y2 B2 PW2 x0 x1 FB
  obtain ⟨ya, yc, ua, uc, h4, z4, p4, y4, b4⟩ := hcut
  have q2 : (qW W t n E ws).length ≤ 6000 := by rw [QB.1]; exact QB.2.1
  have q3 := QB.2.2.1
  have q4 : qT W t n E ws ≤ (qW W t n E ws).length := by rw [QB.1]; exact QB.2.2.2.1
  clear QB hwr hq
  generalize qW W t n E ws = QW at *
  generalize qT W t n E ws = QT at *
  generalize qE W t n E ws = QE at *
  have H4 : Hid (HB2 L F w.heap.size w4 (.slice ya QW.length yc) (.slice ua n uc) QW QT n QE) := h4
  have Z4 : Hid (ZCap w4 (.slice ua n uc) n) := z4
  have P4 : Hid (Piece P1 P2 w4 (.slice pa ws.length pc) ws) := p4
  have Y4 : Hid (Box3 w4 (w.heap.size + 1 + 1) (.slice none 0 0) (.int .i64 0) (.slice none 0 0) 28) := y4
  have B4 : Hid (WW L C w w4) := b4
  clear h4 z4 p4 y4 b4
  have x0 := H4.out.box.c0
  have x1 := H4.out.box.c1
  have x2 := H4.out.box.c2
  have hwr : IntKind.i64.wrap ((QW.length : Int) - QT) = (QW.length : Int) - QT := by rw [IntKind.wrap_i64]; omega
  go_wp2_with fail
  go_loopw [8] (fun i w' => ∃ k : Nat, k ≤ n ∧ i = .int .i64 (k : Int) ∧ (∀ j, j < k → (QE j).v = true) ∧ w' = w4) (fun i _ => n - (intOf i).toNat)
  case atStart => exact ⟨0, by omega, rfl, fun j hj => absurd hj (by omega), rfl⟩
  case round =>
    obtain ⟨k, hk, rfl, hA, hw⟩ := hrel
    have hw' := hw.symm
    clear hw
    subst hw'
    have HA : Hid (∀ j, j < k → (QE j).v = true) := hA
    clear hA
    by_cases hlt : (k : Int) < (n : Int)
    · have L' : k < n := by omega
      obtain ⟨gc, eza, hLc, hFc, cb, hset⟩ := H4.out.cell L'
      subst eza
      obtain ⟨c0, c1, c2, g0, g1, g2⟩ := cb.cells L'
      cases hv : (QE k).v
      · rw [hv] at c2
        have HH : Hid (putH W t n E ws = k) := PH.out.trans (lead_eq hk HA.out (.inr hv))
        clear PH hv
        have k200 : ¬ ((k : Int) = 200) := by omega
        have k200b : ((k : Int) == 200) = false := by simp; omega
        by_cases hroom : (QW.length : Int) - QT < (ws.length : Int)
        · have QV : Hid (putB W t n E ws = false) := by show _ = _; rw [PB.out, HH.out]; first | (simp; omega) | (simp; intros; omega)
          have r0 := Y4.out.c0
          have r1 := Y4.out.c1
          have r2 := Y4.out.c2
          have f0 := Y4.out.free 0
          have f1 := Y4.out.free 1
          have f2 := Y4.out.free 2
          go_wp2
          clear r0 r1 r2 f0 f1 f2
          generalize hZ : ((w4.setCell ⟨w.heap.size + 1 + 1, 0, none⟩ (.slice ya QW.length yc)).setCell ⟨w.heap.size + 1 + 1, 1, none⟩ (.int .i64 QT)).setCell ⟨w.heap.size + 1 + 1, 2, none⟩ (.slice (some ⟨gc, 0, none⟩) n uc) = wz
          have YZ : Box3 wz (w.heap.size + 1 + 1) (.slice ya QW.length yc) (.int .i64 QT) (.slice (some ⟨gc, 0, none⟩) n uc) 28 := by rw [← hZ]; exact ((Y4.out.set0 _).set1 _).set2 _
          have hl0 := HL.out
          have BZ : WW L C w wz := by rw [← hZ]; exact B4.out.win (((win_setCell _ _ _ _).trans (win_setCell _ _ _ _)).trans (win_setCell _ _ _ _)) hl0 (by omega) (.inr (by omega))
          have v0 := YZ.c0
          have v1 := YZ.c1
          have v2 := YZ.c2
          refine bodyPost_ret (v := .tuple #[.agg #[.slice ya QW.length yc, .int .i64 QT, .slice (some ⟨gc, 0, none⟩) n uc], .int .i64 (-1), .bool false]) (by simp [results, Try.results55, go_sem, v0, v1, v2]) rfl ?_
          exact ⟨_, _, _, _, _, _, _, by rw [QV.out]; rfl, fun h => absurd h (by rw [QV.out]; decide), BZ⟩
        · have hro : Hid ((ws.length : Int) ≤ (QW.length : Int) - QT) := by show _ ≤ _; omega
          have QV : Hid (putB W t n E ws = true) := by show _ = _; rw [PB.out, HH.out]; simp; omega
          have PNE : Hid ((if k = n then n + 1 else n) = n) := if_neg (by omega)
          have kne : ¬ ((k : Int) = (n : Int)) := by omega
          have kneb : ((k : Int) == (n : Int)) = false := by simp; omega
          have hwin := set3_win w4 gc k (.int .i64 QT) (.int .i64 (ws.length : Int)) (.bool true)
          have H5 : Hid (HB2 L F w.heap.size (((w4.setCell ⟨gc, k * 3, none⟩ (.int .i64 QT)).setCell ⟨gc, k * 3 + 1, none⟩ (.int .i64 (ws.length : Int))).setCell ⟨gc, k * 3 + 2, none⟩ (.bool true)) (.slice ya QW.length yc) (.slice (some ⟨gc, 0, none⟩) n uc) QW QT n (up QE k ⟨QT, ws.length, true⟩)) := hset ⟨QT, ws.length, true⟩
          have P5 : Hid (Piece P1 P2 (((w4.setCell ⟨gc, k * 3, none⟩ (.int .i64 QT)).setCell ⟨gc, k * 3 + 1, none⟩ (.int .i64 (ws.length : Int))).setCell ⟨gc, k * 3 + 2, none⟩ (.bool true)) (.slice pa ws.length pc) ws) := P4.out.stay fun q h1 h2 => hwin.block q (H4.out.free q (FP.out q h1 h2)).1 (by have := hFc q (FP.out q h1 h2); omega)
          have Y5 : Hid (Box3 (((w4.setCell ⟨gc, k * 3, none⟩ (.int .i64 QT)).setCell ⟨gc, k * 3 + 1, none⟩ (.int .i64 (ws.length : Int))).setCell ⟨gc, k * 3 + 2, none⟩ (.bool true)) (w.heap.size + 1 + 1) (.slice none 0 0) (.int .i64 0) (.slice none 0 0) 28) := Y4.out.win hwin (by have := hFc _ FR.out; omega)
          have B5 : Hid (WW L C w (((w4.setCell ⟨gc, k * 3, none⟩ (.int .i64 QT)).setCell ⟨gc, k * 3 + 1, none⟩ (.int .i64 (ws.length : Int))).setCell ⟨gc, k * 3 + 2, none⟩ (.bool true))) := B4.out.win hwin HL.out hLc (free_or hFc FC.out)
          clear hset hwin cb hFc
          go_upto_region 12 with fail
          go_wp2_with fail
          clear c0 c1 c2 g0 g1 g2 x0 x1 x2
          generalize ((w4.setCell ⟨gc, k * 3, none⟩ (.int .i64 QT)).setCell ⟨gc, k * 3 + 1, none⟩ (.int .i64 (ws.length : Int))).setCell ⟨gc, k * 3 + 2, none⟩ (.bool true) = w5 at *
          have hT : ((QT.toNat : Nat) : Int) = QT := by omega
          generalize QT.toNat = T at *
          subst hT
          have hwl : ws.length ≤ 1000001 := LW.out
          have x1 := H5.out.box.c1
          go_loopw [9] (fun i w' => ∃ j : Nat, j ≤ ws.length ∧ i = .int .i64 (j : Int) ∧ (HB2 L F w.heap.size w' (.slice ya QW.length yc) (.slice (some ⟨gc, 0, none⟩) n uc) (pst QW T ws j) (T : Int) n (up QE k ⟨(T : Int), ws.length, true⟩) ∧ Piece P1 P2 w' (.slice pa ws.length pc) ws ∧ Box3 w' (w.heap.size + 1 + 1) (.slice none 0 0) (.int .i64 0) (.slice none 0 0) 28) ∧ WW L C w w') (fun i _ => ws.length - (intOf i).toNat)
          case atStart => exact ⟨0, by omega, rfl, ⟨H5.out, P5.out, Y5.out⟩, B5.out⟩
          case round =>
            obtain ⟨j, hj, rfl, ⟨h6, p6, y6⟩, b6⟩ := hrel
            have H6 : Hid (HB2 L F w.heap.size wr (.slice ya QW.length yc) (.slice (some ⟨gc, 0, none⟩) n uc) (pst QW T ws j) (T : Int) n (up QE k ⟨(T : Int), ws.length, true⟩)) := h6
            have P6 : Hid (Piece P1 P2 wr (.slice pa ws.length pc) ws) := p6
            have Y6 : Hid (Box3 wr (w.heap.size + 1 + 1) (.slice none 0 0) (.int .i64 0) (.slice none 0 0) 28) := y6
            have B6 : Hid (WW L C w wr) := b6
            clear h6 p6 y6 b6 H5 P5 Y5 B5 x1
            by_cases hjl : (j : Int) < (ws.length : Int)
            · have LJ : j < ws.length := by omega
              have h7 : HB2 L F w.heap.size wr (.slice ya (pst QW T ws j).length yc) (.slice (some ⟨gc, 0, none⟩) n uc) (pst QW T ws j) (T : Int) n (up QE k ⟨(T : Int), ws.length, true⟩) := by rw [pst_len]; exact H6.out
              obtain ⟨gw, off, exa, hLg, hFg, cw, fw, hset⟩ := h7.word (k := T + j) (by rw [pst_len]; omega)
              obtain ⟨pa', pc', epa, hpi⟩ := P6.out.ints
              cases epa
              obtain ⟨b1, o1, epa, _, cj⟩ := hpi.at LJ
              have y0 := H6.out.box.c0
              have y1 := H6.out.box.c1
              have hw1 : IntKind.i64.wrap ((T : Int) + (j : Int)) = (T : Int) + (j : Int) := by rw [IntKind.wrap_i64]; omega
              have hn0 : (0 : Int) ≤ (T : Int) + (j : Int) := by omega
              have hn1 : (T : Int) + (j : Int) < (QW.length : Int) := by omega
              have hn2 : ((T : Int) + (j : Int)).toNat = T + j := by omega
              have hwin := win_setCell wr gw (off + (T + j)) (.int .i64 (ws.getD j 0))
              have H8 : Hid (HB2 L F w.heap.size (wr.setCell ⟨gw, off + (T + j), none⟩ (.int .i64 (ws.getD j 0))) (.slice ya QW.length yc) (.slice (some ⟨gc, 0, none⟩) n uc) (pst QW T ws (j + 1)) (T : Int) n (up QE k ⟨(T : Int), ws.length, true⟩)) := by
                have := hset (ws.getD j 0)
                rw [pst_len] at this
                exact this
              have P8 : Hid (Piece P1 P2 (wr.setCell ⟨gw, off + (T + j), none⟩ (.int .i64 (ws.getD j 0))) (.slice pa ws.length pc) ws) := P6.out.stay fun k h1 h2 => hwin.block k (H6.out.free k (FP.out k h1 h2)).1 (by have := hFg k (FP.out k h1 h2); omega)
              have Y8 : Hid (Box3 (wr.setCell ⟨gw, off + (T + j), none⟩ (.int .i64 (ws.getD j 0))) (w.heap.size + 1 + 1) (.slice none 0 0) (.int .i64 0) (.slice none 0 0) 28) := Y6.out.other (hFg _ FR.out) _
              have B8 : Hid (WW L C w (wr.setCell ⟨gw, off + (T + j), none⟩ (.int .i64 (ws.getD j 0)))) := B6.out.win hwin HL.out hLg (free_or hFg FC.out)
              subst exa
              subst epa
              have a0 := H8.out.box.c0
              have a1 := H8.out.box.c1
              have a2 : (wr.setCell ⟨gw, off + (T + j), none⟩ (.int .i64 (ws.getD j 0))).cell? ⟨b1, o1 + j, none⟩ = some (.int .i64 (ws.getD j 0)) := by
                obtain ⟨pa', pc', e, hpi8⟩ := P8.out.ints
                cases e
                obtain ⟨b', o', e, _, c8⟩ := hpi8.at LJ
                cases e
                exact c8
              generalize ws.getD j 0 = wj at *
              clear hset hwin h7 hpi hFg
              go_wp2_with fail
              go_region_held3 (fun w' => w'.cell? ⟨w.heap.size, 0, none⟩ = some (.slice (some ⟨gw, off, none⟩) QW.length yc) ∧ w'.cell? ⟨w.heap.size, 1, none⟩ = some (.int .i64 (T : Int)) ∧ w'.cell? ⟨b1, o1 + j, none⟩ = some (.int .i64 wj))
                (first | exact ⟨y0, y1, cj⟩ | exact ⟨a0, a1, a2⟩)
                (fail)
              all_goals
                go_wp2
                go_roundw
                case rel => exact ⟨j + 1, by omega, by go_num, ⟨H8.out, P8.out, Y8.out⟩, B8.out.drew⟩
                case measure => simp [intOf]; omega
            · obtain rfl : j = ws.length := by omega
              have y1 := H6.out.box.c1
              have y0 := H6.out.box.c0
              have y2 := H6.out.box.c2
              have g1 := H6.out.box.free 1
              have hw1 : IntKind.i64.wrap ((T : Int) + (ws.length : Int)) = (T : Int) + (ws.length : Int) := by rw [IntKind.wrap_i64]; omega
              have H9 : Hid (HB2 L F w.heap.size (wr.setCell ⟨w.heap.size, 1, none⟩ (.int .i64 ((T : Int) + (ws.length : Int)))) (.slice ya QW.length yc) (.slice (some ⟨gc, 0, none⟩) n uc) (pst QW T ws ws.length) ((T : Int) + (ws.length : Int)) n (up QE k ⟨(T : Int), ws.length, true⟩)) := H6.out.top _
              have Y9 : Hid (Box3 (wr.setCell ⟨w.heap.size, 1, none⟩ (.int .i64 ((T : Int) + (ws.length : Int)))) (w.heap.size + 1 + 1) (.slice none 0 0) (.int .i64 0) (.slice none 0 0) 28) := Y6.out.other (by omega) _
              have hl0 := HL.out
              have B9 : Hid (WW L C w (wr.setCell ⟨w.heap.size, 1, none⟩ (.int .i64 ((T : Int) + (ws.length : Int))))) := B6.out.win (win_setCell _ _ _ _) hl0 hl0 (.inr (Nat.le_refl _))
              go_upto_region 17 with fail
              clear y0 y1 y2 g1
              generalize wr.setCell ⟨w.heap.size, 1, none⟩ (.int .i64 ((T : Int) + (ws.length : Int))) = w9 at *
              have y0 := H9.out.box.c0
              have y1 := H9.out.box.c1
              have y2 := H9.out.box.c2
              have r0 := Y9.out.c0
              have r1 := Y9.out.c1
              have r2 := Y9.out.c2
              have f0 := Y9.out.free 0
              have f1 := Y9.out.free 1
              have f2 := Y9.out.free 2
              go_wp2
              clear y0 y1 y2 r0 r1 r2 f0 f1 f2
              have wzw : Win (w.heap.size + 1 + 1) (w.heap.size + 1 + 1 + 1) w9 (((w9.setCell ⟨w.heap.size + 1 + 1, 0, none⟩ (.slice ya QW.length yc)).setCell ⟨w.heap.size + 1 + 1, 1, none⟩ (.int .i64 ((T : Int) + (ws.length : Int)))).setCell ⟨w.heap.size + 1 + 1, 2, none⟩ (.slice (some ⟨gc, 0, none⟩) n uc)) := ((win_setCell _ _ _ _).trans (win_setCell _ _ _ _)).trans (win_setCell _ _ _ _)
              generalize hZ : ((w9.setCell ⟨w.heap.size + 1 + 1, 0, none⟩ (.slice ya QW.length yc)).setCell ⟨w.heap.size + 1 + 1, 1, none⟩ (.int .i64 ((T : Int) + (ws.length : Int)))).setCell ⟨w.heap.size + 1 + 1, 2, none⟩ (.slice (some ⟨gc, 0, none⟩) n uc) = wz at *
              have YZ : Box3 wz (w.heap.size + 1 + 1) (.slice ya QW.length yc) (.int .i64 ((T : Int) + (ws.length : Int))) (.slice (some ⟨gc, 0, none⟩) n uc) 28 := by rw [← hZ]; exact ((Y9.out.set0 _).set1 _).set2 _
              have BZ : WW L C w wz := B9.out.win wzw hl0 (by omega) (.inr (by omega))
              have HZ := (H9.out.other FR.out wzw).hxe.less (P' := fun k => C ≤ k ∧ k < w.heap.size) fun k hk => FC.out k hk.1 hk.2
              have v0 := YZ.c0
              have v1 := YZ.c1
              have v2 := YZ.c2
              refine bodyPost_ret (v := .tuple #[.agg #[.slice ya QW.length yc, .int .i64 ((T : Int) + (ws.length : Int)), (.slice (some ⟨gc, 0, none⟩) n uc)], .int .i64 (k : Int), .bool true]) (by simp [results, Try.results55, go_sem, v0, v1, v2]) rfl ?_
              refine ⟨_, _, _, _, _, _, _, by rw [QV.out, HH.out]; rfl, fun _ => ?_, BZ⟩
              rw [PWd.out, PT.out, PN.out, PE.out, HH.out, PNE.out]
              exact HZ
      · rw [hv] at c2
        have NX : Hid (∀ j, j < k + 1 → (QE j).v = true) := fun j hj => by
          by_cases e : j = k
          · rw [e]; exact hv
          · exact HA.out j (by omega)
        clear hv
        go_wp2
        go_roundw
        case rel => exact ⟨k + 1, by omega, by go_num, NX.out, by first | rfl | trivial⟩
        case measure => simp [intOf]; omega
    · obtain rfl : k = n := by omega
      have HH : Hid (putH W t k E ws = k) := PH.out.trans (lead_eq hk HA.out (.inl rfl))
      clear PH
      by_cases hroom : (QW.length : Int) - QT < (ws.length : Int)
      · have QV : Hid (putB W t k E ws = false) := by show _ = _; rw [PB.out, HH.out]; first | (simp; omega) | (simp; intros; omega)
        have r0 := Y4.out.c0
        have r1 := Y4.out.c1
        have r2 := Y4.out.c2
        have f0 := Y4.out.free 0
        have f1 := Y4.out.free 1
        have f2 := Y4.out.free 2
        go_wp2
        clear r0 r1 r2 f0 f1 f2
        generalize hZ : ((w4.setCell ⟨w.heap.size + 1 + 1, 0, none⟩ (.slice ya QW.length yc)).setCell ⟨w.heap.size + 1 + 1, 1, none⟩ (.int .i64 QT)).setCell ⟨w.heap.size + 1 + 1, 2, none⟩ (.slice ua k uc) = wz
        have YZ : Box3 wz (w.heap.size + 1 + 1) (.slice ya QW.length yc) (.int .i64 QT) (.slice ua k uc) 28 := by rw [← hZ]; exact ((Y4.out.set0 _).set1 _).set2 _
        have hl0 := HL.out
        have BZ : WW L C w wz := by rw [← hZ]; exact B4.out.win (((win_setCell _ _ _ _).trans (win_setCell _ _ _ _)).trans (win_setCell _ _ _ _)) hl0 (by omega) (.inr (by omega))
        have v0 := YZ.c0
        have v1 := YZ.c1
        have v2 := YZ.c2
        refine bodyPost_ret (v := .tuple #[.agg #[.slice ya QW.length yc, .int .i64 QT, .slice ua k uc], .int .i64 (-1), .bool false]) (by simp [results, Try.results55, go_sem, v0, v1, v2]) rfl ?_
        exact ⟨_, _, _, _, _, _, _, by rw [QV.out]; rfl, fun h => absurd h (by rw [QV.out]; decide), BZ⟩
      · by_cases hk2 : (k : Int) = 200
        · have hk3 : Hid (k = 200) := by show _ = _; omega
          have QV : Hid (putB W t k E ws = false) := by show _ = _; rw [PB.out, HH.out]; first | (simp; omega) | (simp; intros; omega)
          have r0 := Y4.out.c0
          have r1 := Y4.out.c1
          have r2 := Y4.out.c2
          have f0 := Y4.out.free 0
          have f1 := Y4.out.free 1
          have f2 := Y4.out.free 2
          go_wp2
          clear r0 r1 r2 f0 f1 f2
          generalize hZ : ((w4.setCell ⟨w.heap.size + 1 + 1, 0, none⟩ (.slice ya QW.length yc)).setCell ⟨w.heap.size + 1 + 1, 1, none⟩ (.int .i64 QT)).setCell ⟨w.heap.size + 1 + 1, 2, none⟩ (.slice ua k uc) = wz
          have YZ : Box3 wz (w.heap.size + 1 + 1) (.slice ya QW.length yc) (.int .i64 QT) (.slice ua k uc) 28 := by rw [← hZ]; exact ((Y4.out.set0 _).set1 _).set2 _
          have hl0 := HL.out
          have BZ : WW L C w wz := by rw [← hZ]; exact B4.out.win (((win_setCell _ _ _ _).trans (win_setCell _ _ _ _)).trans (win_setCell _ _ _ _)) hl0 (by omega) (.inr (by omega))
          have v0 := YZ.c0
          have v1 := YZ.c1
          have v2 := YZ.c2
          refine bodyPost_ret (v := .tuple #[.agg #[.slice ya QW.length yc, .int .i64 QT, .slice ua k uc], .int .i64 (-1), .bool false]) (by simp [results, Try.results55, go_sem, v0, v1, v2]) rfl ?_
          exact ⟨_, _, _, _, _, _, _, by rw [QV.out]; rfl, fun h => absurd h (by rw [QV.out]; decide), BZ⟩
        · have hk2b : ((k : Int) == 200) = false := by simp; omega
          have k2 : Hid (k < 200) := by show _ < _; omega
          have QV : Hid (putB W t k E ws = true) := by show _ = _; rw [PB.out, HH.out]; have := k2.out; simp; omega
          have keb : ((k : Int) == (k : Int)) = true := by simp
          have hlw4 : L ≤ w4.heap.size := Nat.le_trans HL.out B4.out.1.size
          obtain ⟨a5, c5, w5, r5, bx5, h5, b5, k5⟩ := H4.out.grow (by omega) hlw4 cel0
          have R5 : Hid (∀ ty, (Builtin.append_ #[26, 26] ty #[.slice ua k uc, .slice (some ⟨w4.heap.size, 0, none⟩) 1 1]).run Try.prog (w4.alloc (.cells #[.int .i64 0, .int .i64 0, .bool false] 47)) = .ok (.slice a5 (k + 1) c5) w5) := r5
          have H5a : Hid (HB2 L F w.heap.size (w5.setCell ⟨w.heap.size, 2, none⟩ (.slice a5 (k + 1) c5)) (.slice ya QW.length yc) (.slice a5 (k + 1) c5) QW QT (k + 1) (up QE k cel0)) := h5
          have hwn := win_setCell w5 w.heap.size 2 (.slice a5 (k + 1) c5)
          have s5 := b5.size
          have P5a : Hid (Piece P1 P2 (w5.setCell ⟨w.heap.size, 2, none⟩ (.slice a5 (k + 1) c5)) (.slice pa ws.length pc) ws) := (P4.out.stay fun q h1 h2 => k5 q (FP.out q h1 h2)).stay fun q h1 h2 => hwn.block q (by have := (H4.out.free q (FP.out q h1 h2)).1; omega) (by have := (H4.out.free q (FP.out q h1 h2)).2; omega)
          have Y5a : Hid (Box3 (w5.setCell ⟨w.heap.size, 2, none⟩ (.slice a5 (k + 1) c5)) (w.heap.size + 1 + 1) (.slice none 0 0) (.int .i64 0) (.slice none 0 0) 28) := (show Box3 w5 _ _ _ _ _ by unfold Box3; rw [k5 _ FR.out]; exact Y4.out).other (by omega) _
          have B5a : Hid (WW L C w (w5.setCell ⟨w.heap.size, 2, none⟩ (.slice a5 (k + 1) c5))) := (B4.out.grow b5 fun q h1 h2 => k5 q (FC.out q h1 h2)).win (win_setCell _ _ _ _) HL.out HL.out (.inr (Nat.le_refl _))
          have n0 := bx5.c0
          have n1 := bx5.c1
          have n2 := bx5.c2
          have e2 := bx5.free 2
          have hx2 : ∀ O, (w4.alloc O).cell? ⟨w.heap.size, 2, none⟩ = some (.slice ua k uc) := fun O => (H4.out.box.alloc O).c2
          have hx2' := hx2 (.cells #[.int .i64 0, .int .i64 0, .bool false] 47)
          clear r5 bx5 h5 b5 k5 hwn s5 hx2
          go_upto_region 11 with (at_builtin; refine wpList_append_ty rfl _ _ 26 26 rfl _ _ _ rfl rfl (R5.out _) ?_)
          clear x0 x1 x2 n0 n1 n2 e2 hx2'
          generalize w5.setCell ⟨w.heap.size, 2, none⟩ (.slice a5 (k + 1) c5) = w6 at *
          have x0 := H5a.out.box.c0
          have x1 := H5a.out.box.c1
          have x2 := H5a.out.box.c2
          obtain ⟨gc, eza, hLc, hFc, cb, hset⟩ := H5a.out.cell (k := k) (Nat.lt_succ_self k)
          subst eza
          obtain ⟨c0, c1, c2, g0, g1, g2⟩ := cb.cells (Nat.lt_succ_self k)
          have upE : Hid (up (up QE k cel0) k ⟨QT, ws.length, true⟩ = up QE k ⟨QT, ws.length, true⟩) := up_up _ _ _ _
          have hwin := set3_win w6 gc k (.int .i64 QT) (.int .i64 (ws.length : Int)) (.bool true)
          have H5 : Hid (HB2 L F w.heap.size (((w6.setCell ⟨gc, k * 3, none⟩ (.int .i64 QT)).setCell ⟨gc, k * 3 + 1, none⟩ (.int .i64 (ws.length : Int))).setCell ⟨gc, k * 3 + 2, none⟩ (.bool true)) (.slice ya QW.length yc) (.slice (some ⟨gc, 0, none⟩) (k + 1) c5) QW QT (k + 1) (up (up QE k cel0) k ⟨QT, ws.length, true⟩)) := hset ⟨QT, ws.length, true⟩
          have P5 : Hid (Piece P1 P2 (((w6.setCell ⟨gc, k * 3, none⟩ (.int .i64 QT)).setCell ⟨gc, k * 3 + 1, none⟩ (.int .i64 (ws.length : Int))).setCell ⟨gc, k * 3 + 2, none⟩ (.bool true)) (.slice pa ws.length pc) ws) := P5a.out.stay fun q h1 h2 => hwin.block q (H5a.out.free q (FP.out q h1 h2)).1 (by have := hFc q (FP.out q h1 h2); omega)
          have Y5 : Hid (Box3 (((w6.setCell ⟨gc, k * 3, none⟩ (.int .i64 QT)).setCell ⟨gc, k * 3 + 1, none⟩ (.int .i64 (ws.length : Int))).setCell ⟨gc, k * 3 + 2, none⟩ (.bool true)) (w.heap.size + 1 + 1) (.slice none 0 0) (.int .i64 0) (.slice none 0 0) 28) := Y5a.out.win hwin (by have := hFc _ FR.out; omega)
          have B5 : Hid (WW L C w (((w6.setCell ⟨gc, k * 3, none⟩ (.int .i64 QT)).setCell ⟨gc, k * 3 + 1, none⟩ (.int .i64 (ws.length : Int))).setCell ⟨gc, k * 3 + 2, none⟩ (.bool true))) := B5a.out.win hwin HL.out hLc (free_or hFc FC.out)
          clear hset hwin cb hFc
          rw [upE.out] at H5
          have kl : (k : Int) < ((k + 1 : Nat) : Int) := by omega
          go_upto_region 12 with fail
          go_wp2_with fail
          clear c0 c1 c2 g0 g1 g2 x0 x1 x2
          generalize ((w6.setCell ⟨gc, k * 3, none⟩ (.int .i64 QT)).setCell ⟨gc, k * 3 + 1, none⟩ (.int .i64 (ws.length : Int))).setCell ⟨gc, k * 3 + 2, none⟩ (.bool true) = w7 at *
          have hT : ((QT.toNat : Nat) : Int) = QT := by omega
          generalize QT.toNat = T at *
          subst hT
          have hwl : ws.length ≤ 1000001 := LW.out
          have x1 := H5.out.box.c1
          go_loopw [9] (fun i w' => ∃ j : Nat, j ≤ ws.length ∧ i = .int .i64 (j : Int) ∧ (HB2 L F w.heap.size w' (.slice ya QW.length yc) (.slice (some ⟨gc, 0, none⟩) (k + 1) c5) (pst QW T ws j) (T : Int) (k + 1) (up QE k ⟨(T : Int), ws.length, true⟩) ∧ Piece P1 P2 w' (.slice pa ws.length pc) ws ∧ Box3 w' (w.heap.size + 1 + 1) (.slice none 0 0) (.int .i64 0) (.slice none 0 0) 28) ∧ WW L C w w') (fun i _ => ws.length - (intOf i).toNat)
          case atStart => exact ⟨0, by omega, rfl, ⟨H5.out, P5.out, Y5.out⟩, B5.out⟩
          case round =>
            obtain ⟨j, hj, rfl, ⟨h6, p6, y6⟩, b6⟩ := hrel
            have H6 : Hid (HB2 L F w.heap.size wr (.slice ya QW.length yc) (.slice (some ⟨gc, 0, none⟩) (k + 1) c5) (pst QW T ws j) (T : Int) (k + 1) (up QE k ⟨(T : Int), ws.length, true⟩)) := h6
            have P6 : Hid (Piece P1 P2 wr (.slice pa ws.length pc) ws) := p6
            have Y6 : Hid (Box3 wr (w.heap.size + 1 + 1) (.slice none 0 0) (.int .i64 0) (.slice none 0 0) 28) := y6
            have B6 : Hid (WW L C w wr) := b6
            clear h6 p6 y6 b6 H5 P5 Y5 B5 x1
            by_cases hjl : (j : Int) < (ws.length : Int)
            · have LJ : j < ws.length := by omega
              have h7 : HB2 L F w.heap.size wr (.slice ya (pst QW T ws j).length yc) (.slice (some ⟨gc, 0, none⟩) (k + 1) c5) (pst QW T ws j) (T : Int) (k + 1) (up QE k ⟨(T : Int), ws.length, true⟩) := by rw [pst_len]; exact H6.out
              obtain ⟨gw, off, exa, hLg, hFg, cw, fw, hset⟩ := h7.word (k := T + j) (by rw [pst_len]; omega)
              obtain ⟨pa', pc', epa, hpi⟩ := P6.out.ints
              cases epa
              obtain ⟨b1, o1, epa, _, cj⟩ := hpi.at LJ
              have y0 := H6.out.box.c0
              have y1 := H6.out.box.c1
              have hw1 : IntKind.i64.wrap ((T : Int) + (j : Int)) = (T : Int) + (j : Int) := by rw [IntKind.wrap_i64]; omega
              have hn0 : (0 : Int) ≤ (T : Int) + (j : Int) := by omega
              have hn1 : (T : Int) + (j : Int) < (QW.length : Int) := by omega
              have hn2 : ((T : Int) + (j : Int)).toNat = T + j := by omega
              have hwin := win_setCell wr gw (off + (T + j)) (.int .i64 (ws.getD j 0))
              have H8 : Hid (HB2 L F w.heap.size (wr.setCell ⟨gw, off + (T + j), none⟩ (.int .i64 (ws.getD j 0))) (.slice ya QW.length yc) (.slice (some ⟨gc, 0, none⟩) (k + 1) c5) (pst QW T ws (j + 1)) (T : Int) (k + 1) (up QE k ⟨(T : Int), ws.length, true⟩)) := by
                have := hset (ws.getD j 0)
                rw [pst_len] at this
                exact this
              have P8 : Hid (Piece P1 P2 (wr.setCell ⟨gw, off + (T + j), none⟩ (.int .i64 (ws.getD j 0))) (.slice pa ws.length pc) ws) := P6.out.stay fun k h1 h2 => hwin.block k (H6.out.free k (FP.out k h1 h2)).1 (by have := hFg k (FP.out k h1 h2); omega)
              have Y8 : Hid (Box3 (wr.setCell ⟨gw, off + (T + j), none⟩ (.int .i64 (ws.getD j 0))) (w.heap.size + 1 + 1) (.slice none 0 0) (.int .i64 0) (.slice none 0 0) 28) := Y6.out.other (hFg _ FR.out) _
              have B8 : Hid (WW L C w (wr.setCell ⟨gw, off + (T + j), none⟩ (.int .i64 (ws.getD j 0)))) := B6.out.win hwin HL.out hLg (free_or hFg FC.out)
              subst exa
              subst epa
              have a0 := H8.out.box.c0
              have a1 := H8.out.box.c1
              have a2 : (wr.setCell ⟨gw, off + (T + j), none⟩ (.int .i64 (ws.getD j 0))).cell? ⟨b1, o1 + j, none⟩ = some (.int .i64 (ws.getD j 0)) := by
                obtain ⟨pa', pc', e, hpi8⟩ := P8.out.ints
                cases e
                obtain ⟨b', o', e, _, c8⟩ := hpi8.at LJ
                cases e
                exact c8
              generalize ws.getD j 0 = wj at *
              clear hset hwin h7 hpi hFg
              go_wp2_with fail
              go_region_held3 (fun w' => w'.cell? ⟨w.heap.size, 0, none⟩ = some (.slice (some ⟨gw, off, none⟩) QW.length yc) ∧ w'.cell? ⟨w.heap.size, 1, none⟩ = some (.int .i64 (T : Int)) ∧ w'.cell? ⟨b1, o1 + j, none⟩ = some (.int .i64 wj))
                (first | exact ⟨y0, y1, cj⟩ | exact ⟨a0, a1, a2⟩)
                (fail)
              all_goals
                go_wp2
                go_roundw
                case rel => exact ⟨j + 1, by omega, by go_num, ⟨H8.out, P8.out, Y8.out⟩, B8.out.drew⟩
                case measure => simp [intOf]; omega
            · obtain rfl : j = ws.length := by omega
              have y1 := H6.out.box.c1
              have y0 := H6.out.box.c0
              have y2 := H6.out.box.c2
              have g1 := H6.out.box.free 1
              have hw1 : IntKind.i64.wrap ((T : Int) + (ws.length : Int)) = (T : Int) + (ws.length : Int) := by rw [IntKind.wrap_i64]; omega
              have H9 : Hid (HB2 L F w.heap.size (wr.setCell ⟨w.heap.size, 1, none⟩ (.int .i64 ((T : Int) + (ws.length : Int)))) (.slice ya QW.length yc) (.slice (some ⟨gc, 0, none⟩) (k + 1) c5) (pst QW T ws ws.length) ((T : Int) + (ws.length : Int)) (k + 1) (up QE k ⟨(T : Int), ws.length, true⟩)) := H6.out.top _
              have Y9 : Hid (Box3 (wr.setCell ⟨w.heap.size, 1, none⟩ (.int .i64 ((T : Int) + (ws.length : Int)))) (w.heap.size + 1 + 1) (.slice none 0 0) (.int .i64 0) (.slice none 0 0) 28) := Y6.out.other (by omega) _
              have hl0 := HL.out
              have B9 : Hid (WW L C w (wr.setCell ⟨w.heap.size, 1, none⟩ (.int .i64 ((T : Int) + (ws.length : Int))))) := B6.out.win (win_setCell _ _ _ _) hl0 hl0 (.inr (Nat.le_refl _))
              go_upto_region 17 with fail
              clear y0 y1 y2 g1
              generalize wr.setCell ⟨w.heap.size, 1, none⟩ (.int .i64 ((T : Int) + (ws.length : Int))) = w9 at *
              have y0 := H9.out.box.c0
              have y1 := H9.out.box.c1
              have y2 := H9.out.box.c2
              have r0 := Y9.out.c0
              have r1 := Y9.out.c1
              have r2 := Y9.out.c2
              have f0 := Y9.out.free 0
              have f1 := Y9.out.free 1
              have f2 := Y9.out.free 2
              go_wp2
              clear y0 y1 y2 r0 r1 r2 f0 f1 f2
              have wzw : Win (w.heap.size + 1 + 1) (w.heap.size + 1 + 1 + 1) w9 (((w9.setCell ⟨w.heap.size + 1 + 1, 0, none⟩ (.slice ya QW.length yc)).setCell ⟨w.heap.size + 1 + 1, 1, none⟩ (.int .i64 ((T : Int) + (ws.length : Int)))).setCell ⟨w.heap.size + 1 + 1, 2, none⟩ (.slice (some ⟨gc, 0, none⟩) (k + 1) c5)) := ((win_setCell _ _ _ _).trans (win_setCell _ _ _ _)).trans (win_setCell _ _ _ _)
              generalize hZ : ((w9.setCell ⟨w.heap.size + 1 + 1, 0, none⟩ (.slice ya QW.length yc)).setCell ⟨w.heap.size + 1 + 1, 1, none⟩ (.int .i64 ((T : Int) + (ws.length : Int)))).setCell ⟨w.heap.size + 1 + 1, 2, none⟩ (.slice (some ⟨gc, 0, none⟩) (k + 1) c5) = wz at *
              have YZ : Box3 wz (w.heap.size + 1 + 1) (.slice ya QW.length yc) (.int .i64 ((T : Int) + (ws.length : Int))) (.slice (some ⟨gc, 0, none⟩) (k + 1) c5) 28 := by rw [← hZ]; exact ((Y9.out.set0 _).set1 _).set2 _
              have BZ : WW L C w wz := B9.out.win wzw hl0 (by omega) (.inr (by omega))
              have HZ := (H9.out.other FR.out wzw).hxe.less (P' := fun k => C ≤ k ∧ k < w.heap.size) fun k hk => FC.out k hk.1 hk.2
              have v0 := YZ.c0
              have v1 := YZ.c1
              have v2 := YZ.c2
              refine bodyPost_ret (v := .tuple #[.agg #[.slice ya QW.length yc, .int .i64 ((T : Int) + (ws.length : Int)), (.slice (some ⟨gc, 0, none⟩) (k + 1) c5)], .int .i64 (k : Int), .bool true]) (by simp [results, Try.results55, go_sem, v0, v1, v2]) rfl ?_
              refine ⟨_, _, _, _, _, _, _, by rw [QV.out, HH.out]; rfl, fun _ => ?_, BZ⟩
              rw [PWd.out, PT.out, PN.out, PE.out, HH.out, if_pos rfl]
              exact HZ
end Go.Proofs.Ytmmjidhpmbcoiaa
namespace Go.Proofs.Ytmmjidhpmbcoiaa
open Go.RowKit
set_option linter.unusedVariables false
set_option linter.unusedSimpArgs false
set_option maxRecDepth 20000 in
set_option maxHeartbeats 16000000 in
/-- The specification's HeapPut. -/
theorem heapPut_spec2 {w : World} {v u : Value} {W : List Int} {t : Int} {n : Nat} {E : Nat → Cel} {s d : List Int} (h : HI w v W t n E) (he : (∀ i, in64 (E i).f ∧ in64 (E i).l) ∧ in64 t) (hW : W.length ≤ 1048576) (hn : n ≤ 1048576) (ha : ArrI w u s d) (hd : d.length ≤ 1048576) :
    Calls Try.prog 18 #[v, u] w fun e w' => ∃ v', e = .returned (.tuple #[v', .int .i64 (outI W t n E s d), .bool (outB W t n E s d)]) ∧ HXZ (fun _ => False) w.heap.size w'.heap.size w' v' (outW W t n E s d) (outT W t n E s d) (outN W t n E s d) (outE W t n E s d) ∧ Below w.heap.size w w' := by
  have CK : Hid (∀ W', Below w.heap.size w W' → Calls Try.prog 25 #[v] W' fun e w' => e = .returned (.bool (hOkB W.length t n E)) ∧ Below W'.heap.size W' w') := fun W' hb => heapOk_spec (h.keep hb) he hW hn
  have CA : Hid (∀ W', Below w.heap.size w W' → Calls Try.prog 53 #[u] W' fun e w' => e = .returned (.bool (arrOk s d)) ∧ Below W'.heap.size W' w') := fun W' hb => arrOk_spec (ha.keep hb) hd
  have CC : Hid (∀ W', Below w.heap.size w W' → Calls Try.prog 54 #[v] W' fun e w' => ∃ v', e = .returned v' ∧ HP W'.heap.size w'.heap.size w' v' W t n E ∧ CapH w' v' n ∧ Below W'.heap.size W' w') := fun W' hb => heapCopy_spec2 (h.keep hb) hW hn
  have AI : Hid (ArrI w u s d) := ha
  obtain ⟨wa, wc_, ca, cc, rfl, h1, h2, h3, h4⟩ := h
  obtain ⟨sa, sc, da, dc, rfl, a1, a2, a3, a4⟩ := ha
  clear h1 h2 h3 h4 he a1 a2 a3 a4
  go_enter Try.func18, Try.ntmps18
  go_wp2_with fail
  generalize hV : ((w.alloc (.cells #[.slice wa W.length wc_, .int .i64 t, .slice ca n cc] 28)).alloc (.cells #[.slice sa s.length sc, .slice da d.length dc] 32)).alloc (.cells #[.slice none 0 0, .int .i64 0, .slice none 0 0] 28) = w1
  have B1 : Hid (Below w.heap.size w w1) := by rw [← hV]; exact bAlloc (bAlloc (bAlloc (Below.refl _ _) _) _) _
  have X1 : Hid (Box3 w1 w.heap.size (.slice wa W.length wc_) (.int .i64 t) (.slice ca n cc) 28) := by rw [← hV]; exact ((box3_new _ _ _ _ _).alloc _).alloc _
  have A1 : Hid (Box w1 (w.heap.size + 1) (.slice sa s.length sc) (.slice da d.length dc) 32) := by
    have := box_new (w.alloc (.cells #[.slice wa W.length wc_, .int .i64 t, .slice ca n cc] 28)) (.slice sa s.length sc) (.slice da d.length dc) 32
    show Box _ _ _ _ _
    rw [← hV]
    exact (Box.keep (by simpa using this) (bAlloc (Below.refl _ _) _))
  have Y1 : Hid (Box3 w1 (w.heap.size + 1 + 1) (.slice none 0 0) (.int .i64 0) (.slice none 0 0) 28) := by
    have := box3_new ((w.alloc (.cells #[.slice wa W.length wc_, .int .i64 t, .slice ca n cc] 28)).alloc (.cells #[.slice sa s.length sc, .slice da d.length dc] 32)) (.slice none 0 0) (.int .i64 0) (.slice none 0 0) 28
    show Box3 _ _ _ _ _ _
    rw [← hV]; simpa using this
  clear hV
  refine (CK.out _ B1.out).mono ?_
  rintro r w2 ⟨rfl, hb⟩
  have B2 : Hid (Below w.heap.size w w2) := bTrans B1.out hb
  have X2 : Hid (Box3 w2 w.heap.size (.slice wa W.length wc_) (.int .i64 t) (.slice ca n cc) 28) := X1.out.keep hb
  have A2 : Hid (Box w2 (w.heap.size + 1) (.slice sa s.length sc) (.slice da d.length dc) 32) := A1.out.keep hb
  have Y2 : Hid (Box3 w2 (w.heap.size + 1 + 1) (.slice none 0 0) (.int .i64 0) (.slice none 0 0) 28) := Y1.out.keep hb
  clear hb B1 X1 A1 Y1
  by_cases kk : hOkB W.length t n E = true
  case neg =>
    have e1 : hOkB W.length t n E = false := by simpa using kk
    rw [e1]
    obtain ⟨o1, o2, o3, o4, o5, o6⟩ := out_bad (s := s) (d := d) e1
    have r0 := Y2.out.c0
    have r1 := Y2.out.c1
    have r2 := Y2.out.c2
    have f0 := Y2.out.free 0
    have f1 := Y2.out.free 1
    have f2 := Y2.out.free 2
    go_wp2
    clear r0 r1 r2 f0 f1 f2
    generalize hZ : ((w2.setCell ⟨w.heap.size + 1 + 1, 0, none⟩ (.slice none 0 0)).setCell ⟨w.heap.size + 1 + 1, 1, none⟩ (.int .i64 0)).setCell ⟨w.heap.size + 1 + 1, 2, none⟩ (.slice none 0 0) = wz
    have YZ : Box3 wz (w.heap.size + 1 + 1) (.slice none 0 0) (.int .i64 0) (.slice none 0 0) 28 := by rw [← hZ]; exact ((Y2.out.set0 _).set1 _).set2 _
    have WZ : Win (w.heap.size + 1 + 1) (w.heap.size + 1 + 1 + 1) w2 wz := by rw [← hZ]; exact ((win_setCell _ _ _ _).trans (win_setCell _ _ _ _)).trans (win_setCell _ _ _ _)
    have BZ : Below w.heap.size w wz := by rw [← hZ]; exact below_setCell (below_setCell (below_setCell B2.out (by omega) _ _) (by omega) _ _) (by omega) _ _
    have v0 := YZ.c0
    have v1 := YZ.c1
    have v2 := YZ.c2
    refine bodyPost_ret (v := .tuple #[.agg #[(.slice none 0 0), .int .i64 0, (.slice none 0 0)], .int .i64 (-1), .bool false]) (by simp [results, Try.results18, go_sem, v0, v1, v2]) rfl ?_
    rw [o1, o2, o3, o4, o5, o6]
    exact ⟨_, rfl, (HP.zero _ _ BZ.size _ _).hxz (ZCap.nil _).capH, BZ⟩
  case pos =>
  have y0 := A2.out.c0
  have y1 := A2.out.c1
  rw [kk]
  go_wp2_with fail
  refine (CA.out _ B2.out).mono ?_
  rintro r w3 ⟨rfl, hb⟩
  have B3 : Hid (Below w.heap.size w w3) := bTrans B2.out hb
  have X3 : Hid (Box3 w3 w.heap.size (.slice wa W.length wc_) (.int .i64 t) (.slice ca n cc) 28) := X2.out.keep hb
  have A3 : Hid (Box w3 (w.heap.size + 1) (.slice sa s.length sc) (.slice da d.length dc) 32) := A2.out.keep hb
  have Y3 : Hid (Box3 w3 (w.heap.size + 1 + 1) (.slice none 0 0) (.int .i64 0) (.slice none 0 0) 28) := Y2.out.keep hb
  have L3 := Y3.out.lt
  have S23 := B3.out.size
  clear hb B2 X2 A2 Y2 y0 y1
  have x0 := X3.out.c0
  have x1 := X3.out.c1
  have x2 := X3.out.c2
  by_cases aa : arrOk s d = true
  case neg =>
    have e1 : arrOk s d = false := by simpa using aa
    obtain ⟨o1, o2, o3, o4, o5, o6⟩ := out_same (s := s) (d := d) kk (by rw [e1]; rfl)
    rw [e1]
    go_wp2_with fail
    refine (CC.out _ B3.out).mono ?_
    rintro r w4 ⟨v', rfl, hP, hcq, hb⟩
    have P4 : Hid (HXZ (fun _ => False) w3.heap.size w4.heap.size w4 v' W t n E) := hP.hxz hcq
    have B4 : Hid (Below w.heap.size w w4) := bTrans B3.out hb
    have Y4 : Hid (Box3 w4 (w.heap.size + 1 + 1) (.slice none 0 0) (.int .i64 0) (.slice none 0 0) 28) := Y3.out.keep hb
    clear hb hP hcq x0 x1 x2
    obtain ⟨xa, xc, za, zc, rfl⟩ := P4.out.hx.form
    have r0 := Y4.out.c0
    have r1 := Y4.out.c1
    have r2 := Y4.out.c2
    have f0 := Y4.out.free 0
    have f1 := Y4.out.free 1
    have f2 := Y4.out.free 2
    go_wp2
    clear r0 r1 r2 f0 f1 f2
    generalize hZ : ((w4.setCell ⟨w.heap.size + 1 + 1, 0, none⟩ (.slice xa W.length xc)).setCell ⟨w.heap.size + 1 + 1, 1, none⟩ (.int .i64 t)).setCell ⟨w.heap.size + 1 + 1, 2, none⟩ (.slice za n zc) = wz
    have YZ : Box3 wz (w.heap.size + 1 + 1) (.slice xa W.length xc) (.int .i64 t) (.slice za n zc) 28 := by rw [← hZ]; exact ((Y4.out.set0 _).set1 _).set2 _
    have WZ : Win (w.heap.size + 1 + 1) (w.heap.size + 1 + 1 + 1) w4 wz := by rw [← hZ]; exact ((win_setCell _ _ _ _).trans (win_setCell _ _ _ _)).trans (win_setCell _ _ _ _)
    have BZ : Below w.heap.size w wz := by rw [← hZ]; exact below_setCell (below_setCell (below_setCell B4.out (by omega) _ _) (by omega) _ _) (by omega) _ _
    have v0 := YZ.c0
    have v1 := YZ.c1
    have v2 := YZ.c2
    refine bodyPost_ret (v := .tuple #[.agg #[(.slice xa W.length xc), .int .i64 t, (.slice za n zc)], .int .i64 (-1), .bool false]) (by simp [results, Try.results18, go_sem, v0, v1, v2]) rfl ?_
    rw [o1, o2, o3, o4, o5, o6]
    exact ⟨_, rfl, (P4.out.win (.inr (by omega)) WZ).mono (by omega) WZ.size, BZ⟩
  case pos =>
  have y0 := A3.out.c0
  have y1 := A3.out.c1
  have hlen := arrOk_len aa
  have hrank : s.length ≤ 3 := arrOk_rank3 aa
  rw [aa]
  obtain ⟨PI, hPI⟩ : ∃ PI : Int, PI = if putB W t n E (wsA s d) = true then (putH W t n E (wsA s d) : Int) else -1 := ⟨_, rfl⟩
  have HPI : Hid (PI = if putB W t n E (wsA s d) = true then (putH W t n E (wsA s d) : Int) else -1) := hPI
  clear hPI
  go_wp2_with fail
  go_cut [7, 8, 9] from 27 (fun p i b w' => ∃ (g7 : Nat) (xa : Option Addr) (xm xc : Nat) (t' : Int) (za : Option Addr) (zn zc : Nat), p = .pointer (some ⟨g7, 0, none⟩) ∧ i = .int .i64 PI ∧ b = .bool (putB W t n E (wsA s d)) ∧ Box3 w' g7 (.slice xa xm xc) (.int .i64 t') (.slice za zn zc) 28 ∧ (putB W t n E (wsA s d) = true → HXZ (fun _ => False) w3.heap.size w'.heap.size w' (.agg #[.slice xa xm xc, .int .i64 t', .slice za zn zc]) (putW W t n E (wsA s d)) (putT W t n E (wsA s d)) (putN W t n E (wsA s d)) (putE W t n E (wsA s d))) ∧ Below w3.heap.size w3 w')
  case first =>
    have KB : Hid (∀ W' : World, Below w3.heap.size w3 W' → W'.cell? ⟨w.heap.size, 0, none⟩ = some (.slice wa W.length wc_) ∧ W'.cell? ⟨w.heap.size, 1, none⟩ = some (.int .i64 t) ∧ W'.cell? ⟨w.heap.size, 2, none⟩ = some (.slice ca n cc) ∧ W'.cell? ⟨w.heap.size + 1, 0, none⟩ = some (.slice sa s.length sc) ∧ W'.cell? ⟨w.heap.size + 1, 1, none⟩ = some (.slice da d.length dc)) := fun W' hb => ⟨(X3.out.keep hb).c0, (X3.out.keep hb).c1, (X3.out.keep hb).c2, (A3.out.keep hb).c0, (A3.out.keep hb).c1⟩
    have nu0 := World.new_ne w3 ⟨w.heap.size, 0, none⟩ x0
    have nu1 := World.new_ne w3 ⟨w.heap.size + 1, 0, none⟩ y0
    go_region_held3 (fun w' => w'.cell? ⟨w.heap.size, 0, none⟩ = some (.slice wa W.length wc_) ∧ w'.cell? ⟨w.heap.size, 1, none⟩ = some (.int .i64 t) ∧ w'.cell? ⟨w.heap.size, 2, none⟩ = some (.slice ca n cc) ∧ w'.cell? ⟨w.heap.size + 1, 0, none⟩ = some (.slice sa s.length sc) ∧ w'.cell? ⟨w.heap.size + 1, 1, none⟩ = some (.slice da d.length dc))
      (first | (refine KB.out _ ?_; (repeat first | exact Below.refl _ _ | exact BY.out | exact BX.out | refine bAlloc ?_ _ | refine Below.drew ?_ | refine below_setCell ?_ (by omega) _ _); done) | go_keep)
      (first
        | (go_at_call 54; refine (CC.out _ (bTrans B3.out (by repeat first | exact Below.refl _ _ | exact (Below.refl _ _).drew | refine bAlloc ?_ _ | refine Below.drew ?_))).mono ?_; rintro r wx ⟨vx, rfl, hPx, hcx, hbx⟩; obtain ⟨ax, ay, az, aw, rfl⟩ := hPx.form; have BX : Hid (Below w3.heap.size w3 wx) := bTrans (by repeat first | exact Below.refl _ _ | exact (Below.refl _ _).drew | refine bAlloc ?_ _ | refine Below.drew ?_) hbx; obtain ⟨Lx, hLx⟩ := ex_eq hPx; have hl1 : w3.heap.size ≤ Lx := Nat.le_trans (sizeBelowH (w := w3) (by repeat first | exact Below.refl _ _ | exact (Below.refl _ _).drew | refine bAlloc ?_ _ | refine Below.drew ?_)) (Nat.le_of_eq hLx.1.symm); have hl2 : Lx ≤ wx.heap.size := Nat.le_trans (Nat.le_of_eq hLx.1) hbx.size; have PX : Hid (HX Lx wx.heap.size wx (.agg #[.slice ax W.length ay, .int .i64 t, .slice az n aw]) W t n E) := hLx.2.hx; have CX : Hid (CapH wx (.agg #[.slice ax W.length ay, .int .i64 t, .slice az n aw]) n) := hcx; (try have bq : Hid (Box3 wx w3.heap.size (.slice none 0 0) (.int .i64 0) (.slice none 0 0) 28 ∧ w3.heap.size < Lx) := ⟨Box3.keep (w := World.drew (World.alloc w3 (.cells #[.slice none 0 0, .int .i64 0, .slice none 0 0] 28))) (box3_new w3 _ _ _ _) hbx, Nat.lt_of_lt_of_eq (lt_allocD w3 _) hLx.1.symm⟩); clear hPx hcx hbx hLx)
        | (go_at_call 55; refine (put_spec2 (L := Lx) (C := wx.heap.size) (PX.out.keep (by repeat first | exact Below.refl _ _ | exact (Below.refl _ _).drew | refine bAlloc ?_ _ | refine Below.drew ?_)) (sizeBelowH (w := wx) (by repeat first | exact Below.refl _ _ | exact (Below.refl _ _).drew | refine bAlloc ?_ _ | refine Below.drew ?_)) (CX.out.keep (by repeat first | exact Below.refl _ _ | exact (Below.refl _ _).drew | refine bAlloc ?_ _ | refine Below.drew ?_)) kk (Nat.le_trans hl2 (sizeBelowH (w := wx) (by repeat first | exact Below.refl _ _ | exact (Below.refl _ _).drew | refine bAlloc ?_ _ | refine Below.drew ?_))) (AI.out.keep (bTrans B3.out (bTrans BX.out (by repeat first | exact Below.refl _ _ | exact (Below.refl _ _).drew | refine bAlloc ?_ _ | refine Below.drew ?_)))) (by omega)).mono ?_; rintro r wy ⟨ya, ym, yc, ty, ua, um, uc, rfl, hXY, hWW⟩; rw [← HPI.out]; have BY : Hid (Below w3.heap.size w3 wy) := (bTrans BX.out (show Below wx.heap.size wx _ from (by repeat first | exact Below.refl _ _ | exact (Below.refl _ _).drew | refine bAlloc ?_ _ | refine Below.drew ?_))).trans (hWW.1.mono hl1); have GY : Hid (putB W t n E (wsA s d) = true → HXZ _ Lx wy.heap.size wy (.agg #[.slice ya ym yc, .int .i64 ty, .slice ua um uc]) (putW W t n E (wsA s d)) (putT W t n E (wsA s d)) (putN W t n E (wsA s d)) (putE W t n E (wsA s d))) := hXY; (try have bqa : Hid (Box3 wy w3.heap.size (.slice none 0 0) (.int .i64 0) (.slice none 0 0) 28 ∧ w3.heap.size < Lx) := ⟨box3_below bq.out.1 (show Below wx.heap.size wx _ from (by repeat first | exact Below.refl _ _ | exact (Below.refl _ _).drew | refine bAlloc ?_ _ | refine Below.drew ?_)) hWW.1 bq.out.2 hl2, bq.out.2⟩); (try have bqb : Hid (Box3 wy wx.heap.size (.slice none 0 0) (.int .i64 0) (.slice none 0 0) 28 ∧ (wx.heap.size ≤ wx.heap.size ∧ wx.heap.size < (World.drew (World.alloc wx (.cells #[.slice none 0 0, .int .i64 0, .slice none 0 0] 28))).heap.size)) := ⟨box3_block (w := World.drew (World.alloc wx (.cells #[.slice none 0 0, .int .i64 0, .slice none 0 0] 28))) (box3_new wx _ _ _ _) (hWW.2 wx.heap.size (Nat.le_refl _) (lt_allocD wx _)), Nat.le_refl _, lt_allocD wx _⟩); (try have m0 := bqa.out.1.c0); (try have m1 := bqa.out.1.c1); (try have m2 := bqa.out.1.c2); (try have f0 := bqa.out.1.free 0); (try have f1 := bqa.out.1.free 1); (try have f2 := bqa.out.1.free 2); (try have m0 := bqb.out.1.c0); (try have m1 := bqb.out.1.c1); (try have m2 := bqb.out.1.c2); (try have f0 := bqb.out.1.free 0); (try have f1 := bqb.out.1.free 1); (try have f2 := bqb.out.1.free 2); clear hXY hWW))
    all_goals
      go_wp2_with fail
      go_meet
      case rel =>
        first
          | exact ⟨wy.heap.size, _, _, _, _, _, _, _, rfl, rfl, rfl, box3_new wy _ _ _ _, fun h => (((GY.out h).less (fun _ h => h.elim)).keep (bAlloc (Below.refl _ _) _)).mono hl1 (by simp), bAlloc BY.out _⟩
          | exact ⟨w3.heap.size, _, _, _, _, _, _, _, rfl, rfl, rfl, ((bqa.out.1.set0 _).set1 _).set2 _, fun h => ((((GY.out h).win (.inr (.inl bqa.out.2)) (((win_setCell _ _ _ _).trans (win_setCell _ _ _ _)).trans (win_setCell _ _ _ _))).less (fun _ h => h.elim))).mono hl1 (by simp [size_setCell]), below_setCell (below_setCell (below_setCell BY.out (Nat.le_refl _) _ _) (Nat.le_refl _) _ _) (Nat.le_refl _) _ _⟩
          | exact ⟨wx.heap.size, _, _, _, _, _, _, _, rfl, rfl, rfl, ((bqb.out.1.set0 _).set1 _).set2 _, fun h => ((((GY.out h).win (.inl bqb.out.2) (((win_setCell _ _ _ _).trans (win_setCell _ _ _ _)).trans (win_setCell _ _ _ _))).less (fun _ h => h.elim))).mono hl1 (by simp [size_setCell]), below_setCell (below_setCell (below_setCell BY.out BX.out.size _ _) BX.out.size _ _) BX.out.size _ _⟩
  case rest =>
    obtain ⟨g7, xa, xm, xc, t', za, zn, zc, rfl, rfl, rfl, hbx, hhx, hbl⟩ := hcut
    have X7 : Hid (Box3 wc g7 (.slice xa xm xc) (.int .i64 t') (.slice za zn zc) 28) := hbx
    have H7 : Hid (putB W t n E (wsA s d) = true → HXZ (fun _ => False) w3.heap.size wc.heap.size wc (.agg #[.slice xa xm xc, .int .i64 t', .slice za zn zc]) (putW W t n E (wsA s d)) (putT W t n E (wsA s d)) (putN W t n E (wsA s d)) (putE W t n E (wsA s d))) := hhx
    have B7 : Hid (Below w.heap.size w wc) := bTrans B3.out hbl
    have Y7 : Hid (Box3 wc (w.heap.size + 1 + 1) (.slice none 0 0) (.int .i64 0) (.slice none 0 0) 28) := Y3.out.keep hbl
    have XX7 : Hid (Box3 wc w.heap.size (.slice wa W.length wc_) (.int .i64 t) (.slice ca n cc) 28) := X3.out.keep hbl
    have S7 := hbl.size
    clear hbx hhx hbl x0 x1 x2 y0 y1
    obtain ⟨w7, hwc⟩ : ∃ x, x = wc := ⟨_, rfl⟩
    subst hwc
    by_cases pp : putB W t n E (wsA s d) = true
    · obtain ⟨o1, o2, o3, o4, o5, o6⟩ := out_put kk aa pp
      have HH : Hid (HXZ (fun _ => False) w3.heap.size w7.heap.size w7 (.agg #[.slice xa xm xc, .int .i64 t', .slice za zn zc]) (putW W t n E (wsA s d)) (putT W t n E (wsA s d)) (putN W t n E (wsA s d)) (putE W t n E (wsA s d))) := H7.out pp
      have e2 : PI = (putH W t n E (wsA s d) : Int) := by rw [HPI.out, if_pos pp]
      rw [pp, e2]
      have x0 := X7.out.c0
      have x1 := X7.out.c1
      have x2 := X7.out.c2
      have r0 := Y7.out.c0
      have r1 := Y7.out.c1
      have r2 := Y7.out.c2
      have f0 := Y7.out.free 0
      have f1 := Y7.out.free 1
      have f2 := Y7.out.free 2
      go_wp2
      clear r0 r1 r2 f0 f1 f2
      generalize hZ : ((w7.setCell ⟨w.heap.size + 1 + 1, 0, none⟩ (.slice xa xm xc)).setCell ⟨w.heap.size + 1 + 1, 1, none⟩ (.int .i64 t')).setCell ⟨w.heap.size + 1 + 1, 2, none⟩ (.slice za zn zc) = wz
      have YZ : Box3 wz (w.heap.size + 1 + 1) (.slice xa xm xc) (.int .i64 t') (.slice za zn zc) 28 := by rw [← hZ]; exact ((Y7.out.set0 _).set1 _).set2 _
      have WZ : Win (w.heap.size + 1 + 1) (w.heap.size + 1 + 1 + 1) w7 wz := by rw [← hZ]; exact ((win_setCell _ _ _ _).trans (win_setCell _ _ _ _)).trans (win_setCell _ _ _ _)
      have BZ : Below w.heap.size w wz := by rw [← hZ]; exact below_setCell (below_setCell (below_setCell B7.out (by omega) _ _) (by omega) _ _) (by omega) _ _
      have v0 := YZ.c0
      have v1 := YZ.c1
      have v2 := YZ.c2
      refine bodyPost_ret (v := .tuple #[.agg #[(.slice xa xm xc), .int .i64 t', (.slice za zn zc)], .int .i64 (putH W t n E (wsA s d) : Int), .bool true]) (by simp [results, Try.results18, go_sem, v0, v1, v2]) rfl ?_
      rw [o1, o2, o3, o4, o5, o6]
      exact ⟨_, rfl, (HH.out.win (.inr (by omega)) WZ).mono (by omega) WZ.size, BZ⟩
    · have e1 : putB W t n E (wsA s d) = false := by simpa using pp
      obtain ⟨o1, o2, o3, o4, o5, o6⟩ := out_same (s := s) (d := d) kk (by rw [e1]; simp)
      rw [e1]
      have x0 := XX7.out.c0
      have x1 := XX7.out.c1
      have x2 := XX7.out.c2
      go_wp2_with fail
      refine (CC.out _ B7.out).mono ?_
      rintro r w8 ⟨v', rfl, hP, hcq, hb⟩
      have P8 : Hid (HXZ (fun _ => False) w7.heap.size w8.heap.size w8 v' W t n E) := hP.hxz hcq
      have B8 : Hid (Below w.heap.size w w8) := bTrans B7.out hb
      have Y8 : Hid (Box3 w8 (w.heap.size + 1 + 1) (.slice none 0 0) (.int .i64 0) (.slice none 0 0) 28) := Y7.out.keep hb
      clear hb hP hcq x0 x1 x2
      obtain ⟨xa, xc, za, zc, rfl⟩ := P8.out.hx.form
      have r0 := Y8.out.c0
      have r1 := Y8.out.c1
      have r2 := Y8.out.c2
      have f0 := Y8.out.free 0
      have f1 := Y8.out.free 1
      have f2 := Y8.out.free 2
      go_wp2
      clear r0 r1 r2 f0 f1 f2
      generalize hZ : ((w8.setCell ⟨w.heap.size + 1 + 1, 0, none⟩ (.slice xa W.length xc)).setCell ⟨w.heap.size + 1 + 1, 1, none⟩ (.int .i64 t)).setCell ⟨w.heap.size + 1 + 1, 2, none⟩ (.slice za n zc) = wz
      have YZ : Box3 wz (w.heap.size + 1 + 1) (.slice xa W.length xc) (.int .i64 t) (.slice za n zc) 28 := by rw [← hZ]; exact ((Y8.out.set0 _).set1 _).set2 _
      have WZ : Win (w.heap.size + 1 + 1) (w.heap.size + 1 + 1 + 1) w8 wz := by rw [← hZ]; exact ((win_setCell _ _ _ _).trans (win_setCell _ _ _ _)).trans (win_setCell _ _ _ _)
      have BZ : Below w.heap.size w wz := by rw [← hZ]; exact below_setCell (below_setCell (below_setCell B8.out (by omega) _ _) (by omega) _ _) (by omega) _ _
      have v0 := YZ.c0
      have v1 := YZ.c1
      have v2 := YZ.c2
      refine bodyPost_ret (v := .tuple #[.agg #[(.slice xa W.length xc), .int .i64 t, (.slice za n zc)], .int .i64 (-1), .bool false]) (by simp [results, Try.results18, go_sem, v0, v1, v2]) rfl ?_
      rw [o1, o2, o3, o4, o5, o6]
      exact ⟨_, rfl, (P8.out.win (.inr (by omega)) WZ).mono (by omega) WZ.size, BZ⟩
end Go.Proofs.Ytmmjidhpmbcoiaa
namespace Go.Proofs.Ytmmjidhpmbcoiaa
open Go.RowKit
set_option linter.unusedVariables false
set_option linter.unusedSimpArgs false
set_option maxRecDepth 20000 in
set_option maxHeartbeats 8000000 in
theorem drop_spec2 {B C : Nat} {w : World} {v : Value} {W : List Int} {t : Int} {n : Nat} {E : Nat → Cel} (h : HP B C w v W t n E) (hC : C ≤ w.heap.size) (hcap : CapH w v n) {k : Nat} (hk : k < n) (hn : n ≤ 1048576) :
    Calls Try.prog 60 #[v, .int .i64 (k : Int)] w fun e w' => ∃ v', e = .returned v' ∧ HP B C w' v' W t n (up E k cel0) ∧ CapH w' v' n ∧ Below B w w' := by
  obtain ⟨x, z, M, rfl, m1, m2, h1, h2⟩ := h
  obtain ⟨ca, cc, rfl, hcc, h2⟩ := h2
  rcases h2 with h2 | ⟨g, rfl, hg1, hg2, h2⟩
  · omega
  have HCap : Hid (Cap w (some ⟨g, 0, none⟩) n cc) := by
    obtain ⟨x', y', a', c', e, q⟩ := hcap
    cases e
    exact q
  clear hcap
  have H1 : Hid (Piece B M w x W) := h1
  have HG : Hid (M ≤ g ∧ g < C) := ⟨hg1, hg2⟩
  obtain ⟨wa, wc, rfl, _⟩ := h1
  have hi : (k : Int) < (n : Int) := by omega
  go_enter Try.func60, Try.ntmps60
  generalize hz : w.heap.size = sz at *
  obtain ⟨A, hA⟩ : ∃ A, A = (w.alloc (.cells #[.slice wa W.length wc, .int .i64 t, .slice (some ⟨g, 0, none⟩) n cc] 28)).alloc (.cells #[.slice none 0 0, .int .i64 0, .slice none 0 0] 28) := ⟨_, rfl⟩
  have BA : Below w.heap.size w A := by rw [hA]; exact bAlloc (bAlloc (Below.refl _ _) _) _
  have HB : Hid (CBlk A g n E) := h2.keep BA
  have CA : Hid (Cap A (some ⟨g, 0, none⟩) n cc) := HCap.out.keep BA
  obtain ⟨c0, c1, c2, f0, f1, f2⟩ := HB.out.cells hk
  rw [hA] at c0 c1 c2 f0 f1 f2
  go_wp2
  clear c0 c1 c2 f0 f1 f2
  rw [← hA]
  have YA : Hid (Box3 A (sz + 1) (.slice none 0 0) (.int .i64 0) (.slice none 0 0) 28) := by
    have := box3_new (w.alloc (.cells #[.slice wa W.length wc, .int .i64 t, .slice (some ⟨g, 0, none⟩) n cc] 28)) (.slice none 0 0) (.int .i64 0) (.slice none 0 0) 28
    show Box3 _ _ _ _ _ _
    rw [hA, ← hz]; simpa using this
  clear hA
  have TB : Hid (CBlk (((A.setCell ⟨g, k * 3, none⟩ (.int .i64 0)).setCell ⟨g, k * 3 + 1, none⟩ (.int .i64 0)).setCell ⟨g, k * 3 + 2, none⟩ (.bool false)) g n (up E k cel0)) := HB.out.set hk cel0
  have WT : Win g (g + 1) A (((A.setCell ⟨g, k * 3, none⟩ (.int .i64 0)).setCell ⟨g, k * 3 + 1, none⟩ (.int .i64 0)).setCell ⟨g, k * 3 + 2, none⟩ (.bool false)) := set3_win _ _ _ _ _ _
  have hgs : g < sz := by omega
  have YT := YA.out.win WT (by omega)
  generalize hT : ((A.setCell ⟨g, k * 3, none⟩ (.int .i64 0)).setCell ⟨g, k * 3 + 1, none⟩ (.int .i64 0)).setCell ⟨g, k * 3 + 2, none⟩ (.bool false) = AT at *
  generalize hZ : ((AT.setCell ⟨sz + 1, 0, none⟩ (.slice wa W.length wc)).setCell ⟨sz + 1, 1, none⟩ (.int .i64 t)).setCell ⟨sz + 1, 2, none⟩ (.slice (some ⟨g, 0, none⟩) n cc) = wz
  have YZ : Box3 wz (sz + 1) (.slice wa W.length wc) (.int .i64 t) (.slice (some ⟨g, 0, none⟩) n cc) 28 := by rw [← hZ]; exact ((YT.set0 _).set1 _).set2 _
  have WZ : Win (sz + 1) (sz + 1 + 1) AT wz := by rw [← hZ]; exact ((win_setCell _ _ _ _).trans (win_setCell _ _ _ _)).trans (win_setCell _ _ _ _)
  have WA : Win M (sz + 1 + 1) A wz := by
    have s1 := WT.size
    have s2 := WZ.size
    exact ⟨by rw [WZ.os, WT.os], by rw [WZ.tape, WT.tape], by rw [WZ.output, WT.output], by omega, fun j hj hd => by rw [WZ.block j (by omega) (by omega), WT.block j hj (by omega)]⟩
  have CZ : Hid (Cap wz (some ⟨g, 0, none⟩) n cc) := by
    show Cap _ _ _ _
    rw [← hZ, ← hT]
    exact (((((CA.out.set _ _ _).set _ _ _).set _ _ _).set _ _ _).set _ _ _).set _ _ _
  have v0 := YZ.c0
  have v1 := YZ.c1
  have v2 := YZ.c2
  clear hZ hT
  refine bodyPost_ret (v := .agg #[.slice wa W.length wc, .int .i64 t, .slice (some ⟨g, 0, none⟩) n cc]) (by simp [results, Try.results60, go_sem, v0, v1, v2]) rfl ?_
  rw [hz] at BA
  have sA := BA.size
  exact ⟨_, rfl, HP.turn (lo := 0) (E := E) (H1.out.keep (by rw [hz]; exact BA)) m1 m2 WA ⟨_, _, rfl, hcc, .inr ⟨g, rfl, hg1, hg2, TB.out.win WZ (by omega)⟩⟩, ⟨_, _, _, _, rfl, CZ.out⟩, (BA.mono (by omega)).trans (WA.below m1 (by omega))⟩
set_option maxRecDepth 20000 in
set_option maxHeartbeats 16000000 in
theorem heapDrop_spec2 {w : World} {v : Value} {W : List Int} {t : Int} {n : Nat} {E : Nat → Cel} (i : Int) (h : HI w v W t n E) (he : (∀ i, in64 (E i).f ∧ in64 (E i).l) ∧ in64 t) (hW : W.length ≤ 1048576) (hn : n ≤ 1048576) :
    Calls Try.prog 24 #[v, .int .i64 i] w fun e w' => ∃ v', e = .returned (.tuple #[v', .bool (hOkB W.length t n E && liveB n E i)]) ∧ HXZ (fun _ => False) w.heap.size w'.heap.size w' v' (if hOkB W.length t n E = true then W else []) (if hOkB W.length t n E = true then t else 0) (if hOkB W.length t n E = true then n else 0) (dropE n E i) ∧ Below w.heap.size w w' := by
  have CK : Hid (∀ W', Below w.heap.size w W' → Calls Try.prog 25 #[v] W' fun e w' => e = .returned (.bool (hOkB W.length t n E)) ∧ Below W'.heap.size W' w') := fun W' hb => heapOk_spec (h.keep hb) he hW hn
  have CC : Hid (∀ W', Below w.heap.size w W' → Calls Try.prog 54 #[v] W' fun e w' => ∃ v', e = .returned v' ∧ HP W'.heap.size w'.heap.size w' v' W t n E ∧ CapH w' v' n ∧ Below W'.heap.size W' w') := fun W' hb => heapCopy_spec2 (h.keep hb) hW hn
  have CL : Hid (∀ W', Below w.heap.size w W' → Calls Try.prog 57 #[v, .int .i64 i] W' fun e w' => e = .returned (.bool (liveB n E i)) ∧ Below W'.heap.size W' w') := fun W' hb => live_spec (h.keep hb) i hn
  obtain ⟨wa, wc, ca, cc, rfl, h1, h2, h3, h4⟩ := h
  clear h1 h2 h3 h4 he
  go_enter Try.func24, Try.ntmps24
  go_wp2_with fail
  generalize hV : (w.alloc (.cells #[.slice wa W.length wc, .int .i64 t, .slice ca n cc] 28)).alloc (.cells #[.slice none 0 0, .int .i64 0, .slice none 0 0] 28) = V
  have B1 : Hid (Below w.heap.size w V) := by rw [← hV]; exact bAlloc (bAlloc (Below.refl _ _) _) _
  have X1 : Hid (Box3 V w.heap.size (.slice wa W.length wc) (.int .i64 t) (.slice ca n cc) 28) := by rw [← hV]; exact (box3_new _ _ _ _ _).alloc _
  have Y1 : Hid (Box3 V (w.heap.size + 1) (.slice none 0 0) (.int .i64 0) (.slice none 0 0) 28) := by
    have := box3_new (w.alloc (.cells #[.slice wa W.length wc, .int .i64 t, .slice ca n cc] 28)) (.slice none 0 0) (.int .i64 0) (.slice none 0 0) 28
    show Box3 _ _ _ _ _ _
    rw [← hV]; simpa using this
  clear hV
  refine (CK.out _ B1.out).mono ?_
  rintro r w2 ⟨rfl, hb⟩
  have B2 : Hid (Below w.heap.size w w2) := bTrans B1.out hb
  have X2 : Hid (Box3 w2 w.heap.size (.slice wa W.length wc) (.int .i64 t) (.slice ca n cc) 28) := X1.out.keep hb
  have Y2 : Hid (Box3 w2 (w.heap.size + 1) (.slice none 0 0) (.int .i64 0) (.slice none 0 0) 28) := Y1.out.keep hb
  clear hb B1 X1 Y1
  by_cases kk : hOkB W.length t n E = true
  case neg =>
    have e1 : hOkB W.length t n E = false := by simpa using kk
    rw [e1]
    have r0 := Y2.out.c0
    have r1 := Y2.out.c1
    have r2 := Y2.out.c2
    have f0 := Y2.out.free 0
    have f1 := Y2.out.free 1
    have f2 := Y2.out.free 2
    go_wp2
    clear r0 r1 r2 f0 f1 f2
    generalize hZ : ((w2.setCell ⟨w.heap.size + 1, 0, none⟩ (.slice none 0 0)).setCell ⟨w.heap.size + 1, 1, none⟩ (.int .i64 0)).setCell ⟨w.heap.size + 1, 2, none⟩ (.slice none 0 0) = wz
    have YZ : Box3 wz (w.heap.size + 1) (.slice none 0 0) (.int .i64 0) (.slice none 0 0) 28 := by rw [← hZ]; exact ((Y2.out.set0 _).set1 _).set2 _
    have BZ : Below w.heap.size w wz := by rw [← hZ]; exact below_setCell (below_setCell (below_setCell B2.out (by omega) _ _) (by omega) _ _) (by omega) _ _
    have v0 := YZ.c0
    have v1 := YZ.c1
    have v2 := YZ.c2
    refine bodyPost_ret (v := .tuple #[.agg #[.slice none 0 0, .int .i64 0, .slice none 0 0], .bool false]) (by simp [results, Try.results24, go_sem, v0, v1, v2]) rfl ?_
    exact ⟨_, rfl, (HP.zero _ _ BZ.size _ _).hxz (ZCap.nil _).capH, BZ⟩
  case pos =>
  have OK : Hid (hOk W.length t n E) := hOkB_iff.1 kk
  have x0 := X2.out.c0
  have x1 := X2.out.c1
  have x2 := X2.out.c2
  rw [kk]
  go_wp2_with fail
  refine (CL.out _ B2.out).mono ?_
  rintro r w3 ⟨rfl, hb⟩
  have B3 : Hid (Below w.heap.size w w3) := bTrans B2.out hb
  have X3 : Hid (Box3 w3 w.heap.size (.slice wa W.length wc) (.int .i64 t) (.slice ca n cc) 28) := X2.out.keep hb
  have Y3 : Hid (Box3 w3 (w.heap.size + 1) (.slice none 0 0) (.int .i64 0) (.slice none 0 0) 28) := Y2.out.keep hb
  clear hb B2 X2 Y2 x0 x1 x2
  have x0 := X3.out.c0
  have x1 := X3.out.c1
  have x2 := X3.out.c2
  have L3 := Y3.out.lt
  by_cases ll : liveB n E i = true
  case neg =>
    have e1 : liveB n E i = false := by simpa using ll
    have e2 : dropE n E i = E := by unfold dropE; rw [if_neg ll]
    rw [e1]
    go_wp2_with fail
    refine (CC.out _ B3.out).mono ?_
    rintro r w4 ⟨v', rfl, hP, hcq, hb⟩
    have P4 : Hid (HP w3.heap.size w4.heap.size w4 v' W t n E) := hP
    have Q4 : Hid (CapH w4 v' n) := hcq
    have B4 : Hid (Below w.heap.size w w4) := bTrans B3.out hb
    have Y4 : Hid (Box3 w4 (w.heap.size + 1) (.slice none 0 0) (.int .i64 0) (.slice none 0 0) 28) := Y3.out.keep hb
    clear hb hP hcq x0 x1 x2
    obtain ⟨xa, xc, za, zc, rfl⟩ := P4.out.form
    have r0 := Y4.out.c0
    have r1 := Y4.out.c1
    have r2 := Y4.out.c2
    have f0 := Y4.out.free 0
    have f1 := Y4.out.free 1
    have f2 := Y4.out.free 2
    go_wp2
    clear r0 r1 r2 f0 f1 f2
    generalize hZ : ((w4.setCell ⟨w.heap.size + 1, 0, none⟩ (.slice xa W.length xc)).setCell ⟨w.heap.size + 1, 1, none⟩ (.int .i64 t)).setCell ⟨w.heap.size + 1, 2, none⟩ (.slice za n zc) = wz
    have YZ : Box3 wz (w.heap.size + 1) (.slice xa W.length xc) (.int .i64 t) (.slice za n zc) 28 := by rw [← hZ]; exact ((Y4.out.set0 _).set1 _).set2 _
    have WZ : Win (w.heap.size + 1) (w.heap.size + 1 + 1) w4 wz := by rw [← hZ]; exact ((win_setCell _ _ _ _).trans (win_setCell _ _ _ _)).trans (win_setCell _ _ _ _)
    have BZ : Below w.heap.size w wz := by rw [← hZ]; exact below_setCell (below_setCell (below_setCell B4.out (by omega) _ _) (by omega) _ _) (by omega) _ _
    have v0 := YZ.c0
    have v1 := YZ.c1
    have v2 := YZ.c2
    refine bodyPost_ret (v := .tuple #[.agg #[.slice xa W.length xc, .int .i64 t, .slice za n zc], .bool false]) (by simp [results, Try.results24, go_sem, v0, v1, v2]) rfl ?_
    exact ⟨_, rfl, ((P4.out.hxz Q4.out).win (.inr (by omega)) WZ).mono (by omega) WZ.size, BZ⟩
  case pos =>
    obtain ⟨k, rfl, hk, hv⟩ := liveB_at ll
    have e2 : dropE n E (k : Int) = up E k cel0 := by unfold dropE; rw [if_pos ll]; simp
    rw [ll]
    go_wp2_with fail
    refine (CC.out _ B3.out).mono ?_
    rintro r w4 ⟨v', rfl, hP, hcq, hb⟩
    have P4 : Hid (HP w3.heap.size w4.heap.size w4 v' W t n E) := hP
    have Q4 : Hid (CapH w4 v' n) := hcq
    have B4 : Hid (Below w.heap.size w w4) := bTrans B3.out hb
    have Y4 : Hid (Box3 w4 (w.heap.size + 1) (.slice none 0 0) (.int .i64 0) (.slice none 0 0) 28) := Y3.out.keep hb
    have S4 := hb.size
    clear hb hP hcq x0 x1 x2
    go_wp2_with fail
    refine (drop_spec2 P4.out (Nat.le_refl _) Q4.out hk hn).mono ?_
    rintro r w5 ⟨v5, rfl, hP, hcq, hb⟩
    have Q5 : Hid (CapH w5 v5 n) := hcq
    have P5 : Hid (HP w3.heap.size w4.heap.size w5 v5 W t n (up E k cel0)) := hP
    have B5 : Hid (Below w.heap.size w w5) := B4.out.trans (hb.mono (by have := B3.out.size; omega))
    have Y5 : Hid (Box3 w5 (w.heap.size + 1) (.slice none 0 0) (.int .i64 0) (.slice none 0 0) 28) := by
      show w5.heap[_]? = _
      rw [hb.block _ L3]
      exact Y4.out
    have S5 := hb.size
    clear hb hP hcq
    obtain ⟨xa, xc, za, zc, rfl⟩ := P5.out.form
    have r0 := Y5.out.c0
    have r1 := Y5.out.c1
    have r2 := Y5.out.c2
    have f0 := Y5.out.free 0
    have f1 := Y5.out.free 1
    have f2 := Y5.out.free 2
    go_wp2
    clear r0 r1 r2 f0 f1 f2
    generalize hZ : ((w5.setCell ⟨w.heap.size + 1, 0, none⟩ (.slice xa W.length xc)).setCell ⟨w.heap.size + 1, 1, none⟩ (.int .i64 t)).setCell ⟨w.heap.size + 1, 2, none⟩ (.slice za n zc) = wz
    have YZ : Box3 wz (w.heap.size + 1) (.slice xa W.length xc) (.int .i64 t) (.slice za n zc) 28 := by rw [← hZ]; exact ((Y5.out.set0 _).set1 _).set2 _
    have WZ : Win (w.heap.size + 1) (w.heap.size + 1 + 1) w5 wz := by rw [← hZ]; exact ((win_setCell _ _ _ _).trans (win_setCell _ _ _ _)).trans (win_setCell _ _ _ _)
    have BZ : Below w.heap.size w wz := by rw [← hZ]; exact below_setCell (below_setCell (below_setCell B5.out (by omega) _ _) (by omega) _ _) (by omega) _ _
    have v0 := YZ.c0
    have v1 := YZ.c1
    have v2 := YZ.c2
    refine bodyPost_ret (v := .tuple #[.agg #[.slice xa W.length xc, .int .i64 t, .slice za n zc], .bool true]) (by simp [results, Try.results24, go_sem, v0, v1, v2]) rfl ?_
    exact ⟨_, rfl, ((P5.out.hxz Q5.out).win (.inr (by omega)) WZ).mono (by omega) (Nat.le_trans S5 WZ.size), BZ⟩
theorem pack_specZ {w : World} {v : Value} {W : List Int} {t : Int} {n : Nat} {E : Nat → Cel} (h : HI w v W t n E) (hk : hOkB W.length t n E = true) :
    Calls Try.prog 62 #[v] w fun e w' => ∃ v', e = .returned v' ∧ HXZ (fun _ => False) w.heap.size w'.heap.size w' v' (packW W t n E) (packT W t n E) (packN W t n E) (packE E n) ∧ Below w.heap.size w w' := by
  refine (pack_specH2 h hk).mono ?_
  rintro e w' ⟨v', rfl, hX, hc, hb⟩
  have e9 : packN W t n E = n := by unfold packN; rw [if_pos hk]
  rw [e9]
  exact ⟨v', rfl, hX.hxz hc, hb⟩
set_option maxRecDepth 20000 in
set_option maxHeartbeats 16000000 in
theorem heapPack_spec2 {w : World} {v : Value} {W : List Int} {t : Int} {n : Nat} {E : Nat → Cel} (h : HI w v W t n E) (he : (∀ i, in64 (E i).f ∧ in64 (E i).l) ∧ in64 t) (hW : W.length ≤ 1048576) (hn : n ≤ 1048576) :
    Calls Try.prog 28 #[v] w fun e w' => ∃ v', e = .returned (.tuple #[v', .bool (hOkB W.length t n E)]) ∧ HXZ (fun _ => False) w.heap.size w'.heap.size w' v' (packW W t n E) (packT W t n E) (packN W t n E) (packE E n) ∧ Below w.heap.size w w' := by
  have CK : Hid (∀ W', Below w.heap.size w W' → Calls Try.prog 25 #[v] W' fun e w' => e = .returned (.bool (hOkB W.length t n E)) ∧ Below W'.heap.size W' w') := fun W' hb => heapOk_spec (h.keep hb) he hW hn
  have CP : Hid (hOkB W.length t n E = true → ∀ W', Below w.heap.size w W' → Calls Try.prog 62 #[v] W' fun e w' => ∃ v', e = .returned v' ∧ HXZ (fun _ => False) W'.heap.size w'.heap.size w' v' (packW W t n E) (packT W t n E) (packN W t n E) (packE E n) ∧ Below W'.heap.size W' w') := fun hk W' hb => pack_specZ (h.keep hb) hk
  obtain ⟨wa, wc, ca, cc, rfl, h1, h2, h3, h4⟩ := h
  clear h1 h2 h3 h4 he
  go_enter Try.func28, Try.ntmps28
  go_wp2_with fail
  generalize hV : (w.alloc (.cells #[.slice wa W.length wc, .int .i64 t, .slice ca n cc] 28)).alloc (.cells #[.slice none 0 0, .int .i64 0, .slice none 0 0] 28) = V
  have B1 : Hid (Below w.heap.size w V) := by rw [← hV]; exact bAlloc (bAlloc (Below.refl _ _) _) _
  have X1 : Hid (Box3 V w.heap.size (.slice wa W.length wc) (.int .i64 t) (.slice ca n cc) 28) := by rw [← hV]; exact (box3_new _ _ _ _ _).alloc _
  have Y1 : Hid (Box3 V (w.heap.size + 1) (.slice none 0 0) (.int .i64 0) (.slice none 0 0) 28) := by
    have := box3_new (w.alloc (.cells #[.slice wa W.length wc, .int .i64 t, .slice ca n cc] 28)) (.slice none 0 0) (.int .i64 0) (.slice none 0 0) 28
    show Box3 _ _ _ _ _ _
    rw [← hV]; simpa using this
  clear hV
  refine (CK.out _ B1.out).mono ?_
  rintro r w2 ⟨rfl, hb⟩
  have B2 : Hid (Below w.heap.size w w2) := bTrans B1.out hb
  have X2 : Hid (Box3 w2 w.heap.size (.slice wa W.length wc) (.int .i64 t) (.slice ca n cc) 28) := X1.out.keep hb
  have Y2 : Hid (Box3 w2 (w.heap.size + 1) (.slice none 0 0) (.int .i64 0) (.slice none 0 0) 28) := Y1.out.keep hb
  clear hb B1 X1 Y1
  by_cases kk : hOkB W.length t n E = true
  case neg =>
    have e1 : hOkB W.length t n E = false := by simpa using kk
    rw [e1]
    have r0 := Y2.out.c0
    have r1 := Y2.out.c1
    have r2 := Y2.out.c2
    have f0 := Y2.out.free 0
    have f1 := Y2.out.free 1
    have f2 := Y2.out.free 2
    go_wp2
    clear r0 r1 r2 f0 f1 f2
    generalize hZ : ((w2.setCell ⟨w.heap.size + 1, 0, none⟩ (.slice none 0 0)).setCell ⟨w.heap.size + 1, 1, none⟩ (.int .i64 0)).setCell ⟨w.heap.size + 1, 2, none⟩ (.slice none 0 0) = wz
    have YZ : Box3 wz (w.heap.size + 1) (.slice none 0 0) (.int .i64 0) (.slice none 0 0) 28 := by rw [← hZ]; exact ((Y2.out.set0 _).set1 _).set2 _
    have BZ : Below w.heap.size w wz := by rw [← hZ]; exact below_setCell (below_setCell (below_setCell B2.out (by omega) _ _) (by omega) _ _) (by omega) _ _
    have v0 := YZ.c0
    have v1 := YZ.c1
    have v2 := YZ.c2
    refine bodyPost_ret (v := .tuple #[.agg #[.slice none 0 0, .int .i64 0, .slice none 0 0], .bool false]) (by simp [results, Try.results28, go_sem, v0, v1, v2]) rfl ?_
    have e9 : packW W t n E = [] ∧ packT W t n E = 0 ∧ packN W t n E = 0 := by unfold packW packT packN; rw [if_neg kk, if_neg kk, if_neg kk]; exact ⟨rfl, rfl, rfl⟩
    rw [e9.1, e9.2.1, e9.2.2, e1]
    exact ⟨_, rfl, (HP.zero _ _ BZ.size _ _).hxz (ZCap.nil _).capH, BZ⟩
  case pos =>
  have OK : Hid (hOk W.length t n E) := hOkB_iff.1 kk
  have x0 := X2.out.c0
  have x1 := X2.out.c1
  have x2 := X2.out.c2
  have CQ : Hid (∀ W', Below w.heap.size w W' → Calls Try.prog 62 #[.agg #[.slice wa W.length wc, .int .i64 t, .slice ca n cc]] W' fun e w' => ∃ v', e = .returned v' ∧ HXZ (fun _ => False) W'.heap.size w'.heap.size w' v' (packW W t n E) (packT W t n E) (packN W t n E) (packE E n) ∧ Below W'.heap.size W' w') := CP.out kk
  clear CP CK
  rw [kk]
  go_wp2_with fail
  refine (CQ.out _ B2.out).mono ?_
  rintro r w3 ⟨v3, rfl, hP, hb⟩
  have B3 : Hid (Below w.heap.size w w3) := bTrans B2.out hb
  have Y3 : Hid (Box3 w3 (w.heap.size + 1) (.slice none 0 0) (.int .i64 0) (.slice none 0 0) 28) := Y2.out.keep hb
  have P3 : Hid (HXZ (fun _ => False) w2.heap.size w3.heap.size w3 v3 (packW W t n E) (packT W t n E) (packN W t n E) (packE E n)) := hP
  have L2 := Y2.out.lt
  have S3 := hb.size
  obtain ⟨xa, xc, za, zc, rfl⟩ := hP.hx.form
  clear hP hb x0 x1 x2
  have r0 := Y3.out.c0
  have r1 := Y3.out.c1
  have r2 := Y3.out.c2
  have f0 := Y3.out.free 0
  have f1 := Y3.out.free 1
  have f2 := Y3.out.free 2
  go_wp2
  clear r0 r1 r2 f0 f1 f2
  generalize hZ : ((w3.setCell ⟨w.heap.size + 1, 0, none⟩ (.slice xa (packW W t n E).length xc)).setCell ⟨w.heap.size + 1, 1, none⟩ (.int .i64 (packT W t n E))).setCell ⟨w.heap.size + 1, 2, none⟩ (.slice za (packN W t n E) zc) = wz
  have YZ : Box3 wz (w.heap.size + 1) (.slice xa (packW W t n E).length xc) (.int .i64 (packT W t n E)) (.slice za (packN W t n E) zc) 28 := by rw [← hZ]; exact ((Y3.out.set0 _).set1 _).set2 _
  have WZ : Win (w.heap.size + 1) (w.heap.size + 1 + 1) w3 wz := by rw [← hZ]; exact ((win_setCell _ _ _ _).trans (win_setCell _ _ _ _)).trans (win_setCell _ _ _ _)
  have BZ : Below w.heap.size w wz := by rw [← hZ]; exact below_setCell (below_setCell (below_setCell B3.out (by omega) _ _) (by omega) _ _) (by omega) _ _
  have v0 := YZ.c0
  have v1 := YZ.c1
  have v2 := YZ.c2
  refine bodyPost_ret (v := .tuple #[.agg #[.slice xa (packW W t n E).length xc, .int .i64 (packT W t n E), .slice za (packN W t n E) zc], .bool true]) (by simp [results, Try.results28, go_sem, v0, v1, v2]) rfl ?_
  rw [kk]
  exact ⟨_, rfl, (P3.out.win (.inr (by omega)) WZ).mono (by omega) WZ.size, BZ⟩
end Go.Proofs.Ytmmjidhpmbcoiaa
namespace Go.Proofs.Ytmmjidhpmbcoiaa
open Go.RowKit
set_option linter.unusedVariables false
set_option linter.unusedSimpArgs false
/-- The words of a new heap. -/
def newW (r : Int) : List Int := if 0 ≤ r ∧ r ≤ 6000 then List.replicate r.toNat 0 else []
theorem newW_len (r : Int) : (newW r).length ≤ 1048576 := by unfold newW; split <;> simp; omega
theorem hp_new (w : World) (o : Obj) (m : Nat) : HP w.heap.size ((w.alloc o).alloc (.cells (vals (List.replicate m 0)) 3)).heap.size ((w.alloc o).alloc (.cells (vals (List.replicate m 0)) 3)) (.agg #[.slice (some ⟨w.heap.size + 1, 0, none⟩) m m, .int .i64 0, .slice none 0 0]) (List.replicate m 0) 0 0 (fun _ => cel0) := by
  have h := (ownInts_new (w.alloc o) (List.replicate m 0)).piece (B := w.heap.size) (C := w.heap.size + 1 + 1) (by simp) (by simp) m (by simp)
  have hz : ((w.alloc o).alloc (.cells (vals (List.replicate m 0)) 3)).heap.size = w.heap.size + 1 + 1 := by simp
  rw [hz]
  exact ⟨_, _, w.heap.size + 1 + 1, rfl, by omega, by omega, by simpa using h, CPiece.nil _ _ _ _⟩
set_option maxRecDepth 20000 in
set_option maxHeartbeats 8000000 in
theorem heapNew_spec (r : Int) (w : World) : Calls Try.prog 12 #[.int .i64 r] w fun e w' => ∃ v, e = .returned (.tuple #[v, .bool (decide (0 ≤ r ∧ r ≤ 6000))]) ∧ HP w.heap.size w'.heap.size w' v (newW r) 0 0 (fun _ => cel0) ∧ Below w.heap.size w w' := by
  by_cases h : 0 ≤ r ∧ r ≤ 6000
  · obtain ⟨m, rfl⟩ : ∃ m : Nat, r = (m : Int) := ⟨r.toNat, by omega⟩
    have hmk : ∀ w, (Instr.makeSlice 25 (.int .i64 (m : Int)) (.int .i64 (m : Int))).run Try.prog w = .ok (.slice (some ⟨w.heap.size, 0, none⟩) m m) (w.alloc (.cells (vals (List.replicate m 0)) 3)) := fun w => make_ints m (by omega) w
    have e1 : newW (m : Int) = List.replicate m 0 := by unfold newW; rw [if_pos h]; simp
    have e2 : decide (0 ≤ (m : Int) ∧ (m : Int) ≤ 6000) = true := by simpa using h
    rw [e1, e2]
    have hq : (decide ((0 : Int) ≤ (m : Int)) && decide ((m : Int) ≤ 6000)) = true := by simp; omega
    go_enter Try.func12, Try.ntmps12
    go_wp2_with (go_at_call 43; refine (in_spec _ _ _ _).mono ?_; rintro r w1 ⟨rfl, hw⟩; subst w1; rw [hq])
    go_returns
    exact ⟨_, rfl, hp_new _ _ _, bAlloc (bAlloc (Below.refl _ _) _) _⟩
  · have e1 : newW r = [] := by unfold newW; rw [if_neg h]
    have e2 : decide (0 ≤ r ∧ r ≤ 6000) = false := by simpa using h
    rw [e1, e2]
    have hq : (decide ((0 : Int) ≤ r) && decide (r ≤ 6000)) = false := by simp; omega
    go_enter Try.func12, Try.ntmps12
    go_wp2_with (go_at_call 43; refine (in_spec _ _ _ _).mono ?_; rintro r w1 ⟨rfl, hw⟩; subst w1; rw [hq])
    go_returns
    exact ⟨_, rfl, HP.zero _ _ (by simp) _ _, bAlloc (Below.refl _ _) _⟩
set_option maxRecDepth 20000 in
set_option maxHeartbeats 8000000 in
theorem heapNew_impl (r : Int) (w : World) : Calls Try.prog 11 #[.int .i64 r] w fun e w' => ∃ v, e = .returned (.tuple #[v, .bool (decide (0 ≤ r ∧ r ≤ 6000))]) ∧ HP w.heap.size w'.heap.size w' v (newW r) 0 0 (fun _ => cel0) ∧ Below w.heap.size w w' := by
  by_cases h : 0 ≤ r ∧ r ≤ 6000
  · obtain ⟨m, rfl⟩ : ∃ m : Nat, r = (m : Int) := ⟨r.toNat, by omega⟩
    have hmk : ∀ w, (Instr.makeSlice 25 (.int .i64 (m : Int)) (.int .i64 (m : Int))).run Try.prog w = .ok (.slice (some ⟨w.heap.size, 0, none⟩) m m) (w.alloc (.cells (vals (List.replicate m 0)) 3)) := fun w => make_ints m (by omega) w
    have e1 : newW (m : Int) = List.replicate m 0 := by unfold newW; rw [if_pos h]; simp
    have e2 : decide (0 ≤ (m : Int) ∧ (m : Int) ≤ 6000) = true := by simpa using h
    rw [e1, e2]
    have a1 : ¬ ((m : Int) < 0) := by omega
    have a2 : ¬ ((m : Int) > 6000) := by omega
    go_enter Try.func11, Try.ntmps11
    go_wp2
    go_returns
    exact ⟨_, rfl, hp_new _ _ _, bAlloc (bAlloc (Below.refl _ _) _) _⟩
  · have e1 : newW r = [] := by unfold newW; rw [if_neg h]
    have e2 : decide (0 ≤ r ∧ r ≤ 6000) = false := by simpa using h
    rw [e1, e2]
    by_cases h1 : r < 0
    · go_enter Try.func11, Try.ntmps11
      go_wp2
      go_returns
      exact ⟨_, rfl, HP.zero _ _ (by simp) _ _, bAlloc (Below.refl _ _) _⟩
    · have h2 : r > 6000 := by omega
      go_enter Try.func11, Try.ntmps11
      go_wp2
      go_returns
      exact ⟨_, rfl, HP.zero _ _ (by simp) _ _, bAlloc (Below.refl _ _) _⟩
end Go.Proofs.Ytmmjidhpmbcoiaa
namespace Go.Proofs.Ytmmjidhpmbcoiaa
open Go.RowKit
set_option linter.unusedVariables false
set_option linter.unusedSimpArgs false
theorem sizeBelowE {w w' : World} (h : Below w.heap.size w w') : w.heap.size ≤ w'.heap.size := h.size
end Go.Proofs.Ytmmjidhpmbcoiaa
namespace Go.Proofs.Ytmmjidhpmbcoiaa
open Go.RowKit
theorem ret_int' {k : IntKind} {a b : Int} (h : a = b) : Ending.returned (.int k a) = .returned (.int k b) := by rw [h]
theorem ret_two' {a b c d : Int} (h : a = b) (h' : c = d) : Ending.returned (.tuple #[.int .i64 a, .int .i64 c]) = .returned (.tuple #[.int .i64 b, .int .i64 d]) := by rw [h, h']
theorem ret_bool {a b : Bool} (h : a = b) : Ending.returned (.bool a) = .returned (.bool b) := by rw [h]
end Go.Proofs.Ytmmjidhpmbcoiaa
namespace Go.Proofs.Ytmmjidhpmbcoiaa
open Go.RowKit
set_option linter.unusedVariables false
set_option linter.unusedSimpArgs false
theorem eachOne_bad {g : Int} {s d : List Int} (h : eachOneC g s d ≠ 0) : eachOneS g s d = [] ∧ eachOneD g s d = [] := by
  unfold eachOneS eachOneD; rw [if_neg h, if_neg h]; exact ⟨rfl, rfl⟩
theorem eachOne_good {g : Int} {s d : List Int} (h : eachOneC g s d = 0) : eachOneS g s d = s ∧ eachOneD g s d = (List.range d.length).map (fun i => (oneV g (d.getD i 0)).1) := by
  unfold eachOneS eachOneD; rw [if_pos h, if_pos h]; exact ⟨rfl, rfl⟩
theorem below_of_win {B : Nat} {w a b : World} (h : Below w.heap.size w a) (k : Win B B a b) : Below w.heap.size w b := by
  exact h.trans ⟨k.os, k.tape, k.output, k.size, fun i hi => k.block i (Nat.lt_of_lt_of_le hi h.size) (by omega)⟩
end Go.Proofs.Ytmmjidhpmbcoiaa
namespace Go.Proofs.Ytmmjidhpmbcoiaa
open Go.RowKit
set_option linter.unusedVariables false
set_option linter.unusedSimpArgs false
theorem ok_neg (x : Int) : ok (-x) = ok x := by
  unfold ok
  rw [Bool.eq_iff_iff]
  simp
  omega
theorem getD_mem {d : List Int} {i : Nat} (h : i < d.length) : d.getD i 0 ∈ d := by
  have e : d.getD i 0 = d[i] := by simp [List.getD, h]
  rw [e]; exact List.getElem_mem h
theorem arrOk_all {s d : List Int} (h : arrOk s d = true) {i : Nat} (hi : i < d.length) : ok (d.getD i 0) = true := by
  simp only [arrOk, Bool.and_eq_true] at h
  exact (List.all_eq_true.1 h.2) _ (getD_mem hi)
theorem firstC_none {g : Nat → Int} {n : Nat} (h : ∀ i, i < n → g i = 0) : firstC g n = 0 := by
  induction n with
  | zero => rfl
  | succ n ih => exact firstC_go (ih (fun i hi => h i (by omega))) (h n (by omega))
theorem each_neg {s d : List Int} (ho : arrOk s d = true) : eachOneC 45 s d = 0 ∧ eachOneS 45 s d = s ∧ eachOneD 45 s d = d.map (fun x => -x) := by
  have hc : eachOneC 45 s d = 0 := by
    unfold eachOneC
    rw [if_pos ⟨ho, by decide⟩]
    exact firstC_none (fun i hi => by simp only [oneV_45 (arrOk_all ho hi)])
  refine ⟨hc, (eachOne_good hc).1, ?_⟩
  rw [(eachOne_good hc).2]
  apply List.ext_getElem
  · simp
  · intro i h1 h2
    have hi : i < d.length := by simpa using h2
    have e : d.getD i 0 = d[i] := by simp [List.getD, hi]
    simp only [List.getElem_map, List.getElem_range]
    rw [oneV_45 (arrOk_all ho hi), e]
theorem arrOk_neg {s d : List Int} (ho : arrOk s d = true) : arrOk s (d.map (fun x => -x)) = true := by
  simp only [arrOk, Bool.and_eq_true] at ho ⊢
  refine ⟨by simpa using ho.1, ?_⟩
  rw [List.all_eq_true] at *
  intro x hx
  obtain ⟨y, hy, rfl⟩ := List.mem_map.1 hx
  rw [ok_neg]
  exact ho.2 y hy
theorem each_neg2 {s d : List Int} (ho : arrOk s d = true) : eachOneC 45 (eachOneS 45 s d) (eachOneD 45 s d) = 0 ∧ eachOneS 45 (eachOneS 45 s d) (eachOneD 45 s d) = s ∧ eachOneD 45 (eachOneS 45 s d) (eachOneD 45 s d) = d := by
  obtain ⟨_, h2, h3⟩ := each_neg ho
  rw [h2, h3]
  obtain ⟨k1, k2, k3⟩ := each_neg (arrOk_neg ho)
  exact ⟨k1, k2, by rw [k3, List.map_map]; exact (List.map_congr_left (fun x _ => by simp)).trans (List.map_id d)⟩
theorem one_facts {g : Int} {s d : List Int} (h : eachOneC g s d = 0) : arrOk s d = true ∧ (eachOneD g s d).length = d.length ∧ ∀ i, i < d.length → (oneV g (d.getD i 0)).2 = 0 ∧ (eachOneD g s d).getD i 0 = (oneV g (d.getD i 0)).1 := by
  have hg : arrOk s d = true ∧ sign1 g = true := by
    apply Classical.byContradiction
    intro hn
    unfold eachOneC at h
    rw [if_neg hn] at h
    cases h
  have hf : firstC (fun i => (oneV g (d.getD i 0)).2) d.length = 0 := by
    have q := h
    unfold eachOneC at q
    rw [if_pos hg] at q
    exact q
  rw [(eachOne_good h).2]
  refine ⟨hg.1, by simp, fun i hi => ⟨firstC_all hf i hi, ?_⟩⟩
  simp [List.getD, hi]
theorem eachOne_len (g : Int) (s d : List Int) : (eachOneS g s d).length ≤ s.length ∧ (eachOneD g s d).length ≤ d.length := by
  unfold eachOneS eachOneD
  split <;> simp
set_option maxRecDepth 20000 in
set_option maxHeartbeats 1000000 in
/-- sameArray. -/
theorem same_arr {s d s' d' : List Int} {w : World} {v u : Value} (h : ArrI w v s d) (k : ArrI w u s' d') (hs : s.length ≤ 1048576) (hd : d.length ≤ 1048576) :
    Calls Try.prog 22 #[v, u] w fun e w' => e = .returned (.bool (decide (s = s') && decide (d = d'))) ∧ Below w.heap.size w w' := by
  obtain ⟨a, c, b, e, rfl, h1, h2, _, _⟩ := h
  obtain ⟨a', c', b', e', rfl, k1, k2, _, _⟩ := k
  have H1 : Hid (Ints w a s) := h1
  have H2 : Hid (Ints w b d) := h2
  have K1 : Hid (Ints w a' s') := k1
  have K2 : Hid (Ints w b' d') := k2
  have HS : Hid (s.length ≤ 4611686018427387904) := by show _ ≤ _; omega
  have HD : Hid (d.length ≤ 4611686018427387904) := by show _ ≤ _; omega
  clear h1 h2 k1 k2 hs hd
  generalize hp : decide (s = s') = p
  generalize hq : decide (d = d') = q
  have HP : Hid (decide (s = s') = p) := hp
  have HQ : Hid (decide (d = d') = q) := hq
  clear hp hq
  go_enter Try.func22, Try.ntmps22
  go_wp2_with fail
  refine (same_ints c c' HS.out ((H1.out.alloc _).alloc _) ((K1.out.alloc _).alloc _)).mono ?_
  rintro r w1 ⟨rfl, j, hw⟩
  have HB : Hid (Below w.heap.size w w1) := by rw [hw]; exact bDrewN (bAlloc (bAlloc (Below.refl _ _) _) _) j
  have r1 : w1.cell? ⟨w.heap.size, 1, none⟩ = some (.slice b d.length e) := by rw [hw]; show World.cell? _ _ = _; simp [World.cell?_drewN]
  have r2 : w1.cell? ⟨w.heap.size + 1, 1, none⟩ = some (.slice b' d'.length e') := by rw [hw]; show World.cell? _ _ = _; simp [World.cell?_drewN]
  clear hw j
  rw [HP.out]
  cases p
  · go_wp2
    go_ret
    exact ⟨rfl, HB.out⟩
  · go_wp2_with fail
    refine (same_ints e e' HD.out (H2.out.keep HB.out) (K2.out.keep HB.out)).mono ?_
    rintro r w2 ⟨rfl, j, hw⟩
    have HB2 : Hid (Below w.heap.size w w2) := by rw [hw]; exact bDrewN HB.out j
    clear hw j
    rw [HQ.out]
    cases q
    · go_wp2
      go_ret
      exact ⟨rfl, HB2.out⟩
    · go_wp2
      go_ret
      exact ⟨rfl, HB2.out⟩
end Go.Proofs.Ytmmjidhpmbcoiaa
