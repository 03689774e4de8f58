/-
  Walks: the program's Show.
-/
import Derived.Test.YtcaidhmolnnikaaDoorShowL
import Derived.Deep.RegionHeld3
namespace Go.Proofs.YtcaidhmolnnikaaDoor
open Go.RowKit
set_option linter.unusedVariables false
set_option linter.unusedSimpArgs false
set_option maxRecDepth 20000 in
set_option maxHeartbeats 8000000 in
theorem show0_impl {d : List Int} {v : Value} {w : World} (h : ArrI w v [] d) (ho : arrOk [] d = true) (ht : TabW w) :
    Calls Tryd.prog 11 #[v] w fun e w' => e = .returned (.string (lineV 0 d)) ∧ Below w.heap.size w w' := by
  obtain ⟨z1, z2, z3, z4⟩ := wide_bd ho
  have CO : Hid (∀ W, Below w.heap.size w W → Calls Tryd.prog 33 #[v] W fun e w' => e = .returned (.bool true) ∧ Below W.heap.size W w') := fun W hb => by
    have := arrOk_impl (h.keep hb) (by have := arrOk_len ho; omega)
    rw [ho] at this
    exact this
  have CT : Hid (∀ W g, Below w.heap.size w W → w.heap.size ≤ g → Sheet W g 0 (.slice none 0 0) (.slice none 0 0) → Calls Tryd.prog 35 #[.pointer (some ⟨g, 0, none⟩), v] W fun e w' => e = .returned (.string (lineV 0 d)) ∧ Below W.heap.size W w') := fun W g hb hgg hg => text1_impl hg (h.keep hb) (by simp) (arrOk_num ho) (by have := arrOk_len ho; omega) (by decide) (ht.on hb)
  obtain ⟨V, hV⟩ : ∃ V, V = lineV 0 d := ⟨_, rfl⟩
  rw [← hV] at CT ⊢
  have H := h
  obtain ⟨sa, sc, da, dc, rfl, _, h2, _, _⟩ := h
  have H2 : Hid (Ints w da d) := h2
  have HD : Hid (d.length ≤ 300) := arrOk_len ho
  have HT : Hid (TabW w) := ht
  have CW : Hid (∀ W, Below w.heap.size w W → Calls Tryd.prog 43 #[.slice da d.length dc] W fun e w' => e = .returned (.int .i64 0) ∧ Below W.heap.size W w') := fun W hb => (asCome_impl _ _ _ _).mono (by rintro e w' ⟨rfl, rfl⟩; exact ⟨rfl, Below.refl _ _⟩)
  have EM : Hid (((0 : Nat) : Int) = 0) := rfl
  have LN : (([] : List Int).length : Nat) = 0 := rfl
  clear h2 ho ht hV z1 z2 z3 z4 H
  go_enter Tryd.func11, Tryd.ntmps11
  go_wp2_with fail
  refine (CO.out _ (bAlloc (Below.refl _ _) _)).mono ?_
  rintro e w1 ⟨rfl, hb⟩
  have B1 : Hid (Below w.heap.size w w1) := bTrans (bAlloc (Below.refl _ _) _) hb
  have X1 : Hid (Box w1 w.heap.size (.slice sa 0 sc) (.slice da d.length dc) 27) := (box_new w _ _ _).keep hb
  clear hb CO
  go_wp2_with fail
  refine (layouts_impl _).mono ?_
  rintro e w2 ⟨rfl, hb⟩
  have B2 : Hid (Below w.heap.size w w2) := bTrans B1.out hb
  have X2 : Hid (Box w2 w.heap.size (.slice sa 0 sc) (.slice da d.length dc) 27) := X1.out.keep hb
  clear hb X1
  go_wp2_with fail
  generalize hW : w2.alloc (.cells #[.func (.func 43) #[] #[], .string ⟨#[]⟩, .func (.func 43) #[] #[], .string ⟨#[]⟩, .func (.func 66) #[] #[], .string ⟨#[10]⟩, .func (.func 66) #[] #[], .string ⟨#[10, 10]⟩, .int .i64 0, .slice none 0 0, .slice none 0 0, .slice none 0 0, .slice none 0 0] 59) = w3
  have B23 : Hid (Below w2.heap.size w2 w3) := by rw [← hW]; exact bAlloc (Below.refl _ _) _
  have G3 : Hid (Sheet w3 w2.heap.size 0 (.slice none 0 0) (.slice none 0 0)) := by rw [← hW]; exact heap_alloc_new w2 _
  have B3 : Hid (Below w.heap.size w w3) := bTrans B2.out B23.out
  have X3 : Hid (Box w3 w.heap.size (.slice sa 0 sc) (.slice da d.length dc) 27) := X2.out.keep B23.out
  have SZ : Hid (w.heap.size < w2.heap.size) := X2.out.lt
  clear hW X2
  have SK : Hid (∀ W, Below w3.heap.size w3 W → W.cell? ⟨w.heap.size, 0, none⟩ = some (.slice sa 0 sc) ∧ W.cell? ⟨w.heap.size, 1, none⟩ = some (.slice da d.length dc) ∧ W.cell? ⟨w2.heap.size, 0, none⟩ = some (.func (.func 43) #[] #[])) := fun W hb => ⟨(X3.out.keep hb).c0, (X3.out.keep hb).c1, cell_at (G3.out.keep hb) rfl⟩
  have x0 := X3.out.c0
  have x1 := X3.out.c1
  have g0 : w3.cell? ⟨w2.heap.size, 0, none⟩ = some (.func (.func 43) #[] #[]) := cell_at G3.out rfl
  have ST : Hid (∀ W, Below w3.heap.size w3 W → Sheet (W.setCell ⟨w2.heap.size, 8, none⟩ (.int .i64 0)) w2.heap.size 0 (.slice none 0 0) (.slice none 0 0)) := fun W hb => by
    have := heap_setCell_same W w2.heap.size 8 _ _ (.int .i64 0) (G3.out.keep hb)
    rw [← EM.out] at this ⊢
    exact this
  go_region_held3 (fun w' => w'.cell? ⟨w.heap.size, 0, none⟩ = some (.slice sa 0 sc) ∧ w'.cell? ⟨w.heap.size, 1, none⟩ = some (.slice da d.length dc) ∧ w'.cell? ⟨w2.heap.size, 0, none⟩ = some (.func (.func 43) #[] #[]))
    ((first
      | (refine SK.out _ ?_; (repeat first | with_reducible exact HB4.out | with_reducible exact Below.refl _ _ | with_reducible refine Below.drew ?_); done)
      | exact ⟨(World.cell?_of_block (heap_setCell_other _ _ _ _ (Nat.ne_of_lt SZ.out))).trans (SK.out _ HB4.out).1, (World.cell?_of_block (heap_setCell_other _ _ _ _ (Nat.ne_of_lt SZ.out))).trans (SK.out _ HB4.out).2.1, cell_at (ST.out _ HB4.out) rfl⟩))
    ((go_at_call 43; refine (CW.out _ (bTrans B3.out ((Below.refl w3.heap.size w3).drew))).mono ?_; rintro r w4 ⟨rfl, hb⟩; have HB4 : Hid (Below w3.heap.size w3 w4) := bTrans ((Below.refl w3.heap.size w3).drew) hb; have wc : w4.cell? ⟨w2.heap.size, 8, none⟩ = some (.int .i64 0) := cell_at (G3.out.keep HB4.out) rfl; have wf : w4.frozen? ⟨w2.heap.size, 8, none⟩ = false := free_at (G3.out.keep HB4.out) _; clear hb))
  all_goals
    generalize hW : w4.setCell ⟨w2.heap.size, 8, none⟩ (.int .i64 0) = w5
    have G5 : Hid (Sheet w5 w2.heap.size 0 (.slice none 0 0) (.slice none 0 0)) := by rw [← hW]; exact ST.out _ HB4.out
    have B5 : Hid (Below w.heap.size w w5) := by rw [← hW]; exact below_setCell (bTrans B3.out HB4.out) (by have := SZ.out; omega) _ _
    have x5 : w5.cell? ⟨w.heap.size, 0, none⟩ = some (.slice sa 0 sc) := by rw [← hW]; exact (World.cell?_of_block (heap_setCell_other _ _ _ _ (Nat.ne_of_lt SZ.out))).trans (SK.out _ HB4.out).1
    have y5 : w5.cell? ⟨w.heap.size, 1, none⟩ = some (.slice da d.length dc) := by rw [← hW]; exact (World.cell?_of_block (heap_setCell_other _ _ _ _ (Nat.ne_of_lt SZ.out))).trans (SK.out _ HB4.out).2.1
    clear hW x0 x1 g0 wc wf
    go_wp2_with fail
    refine (CT.out _ _ B5.out (Nat.le_of_lt SZ.out) G5.out).mono ?_
    rintro e w6 ⟨rfl, hb⟩
    have B6 : Hid (Below w.heap.size w w6) := bTrans B5.out hb
    clear hb
    go_wp2
    go_ret
    exact ⟨rfl, B6.out⟩
set_option maxRecDepth 20000 in
set_option maxHeartbeats 8000000 in
theorem show1_impl {x0 : Int} {d : List Int} {v : Value} {w : World} (h : ArrI w v [x0] d) (ho : arrOk [x0] d = true) (ht : TabW w) :
    Calls Tryd.prog 11 #[v] w fun e w' => e = .returned (.string (lineV 0 d)) ∧ Below w.heap.size w w' := by
  obtain ⟨z1, z2, z3, z4⟩ := wide_bd ho
  have CO : Hid (∀ W, Below w.heap.size w W → Calls Tryd.prog 33 #[v] W fun e w' => e = .returned (.bool true) ∧ Below W.heap.size W w') := fun W hb => by
    have := arrOk_impl (h.keep hb) (by have := arrOk_len ho; omega)
    rw [ho] at this
    exact this
  have CT : Hid (∀ W g, Below w.heap.size w W → w.heap.size ≤ g → Sheet W g 0 (.slice none 0 0) (.slice none 0 0) → Calls Tryd.prog 35 #[.pointer (some ⟨g, 0, none⟩), v] W fun e w' => e = .returned (.string (lineV 0 d)) ∧ Below W.heap.size W w') := fun W g hb hgg hg => text1_impl hg (h.keep hb) (by simp) (arrOk_num ho) (by have := arrOk_len ho; omega) (by decide) (ht.on hb)
  obtain ⟨V, hV⟩ : ∃ V, V = lineV 0 d := ⟨_, rfl⟩
  rw [← hV] at CT ⊢
  have H := h
  obtain ⟨sa, sc, da, dc, rfl, _, h2, _, _⟩ := h
  have H2 : Hid (Ints w da d) := h2
  have HD : Hid (d.length ≤ 300) := arrOk_len ho
  have HT : Hid (TabW w) := ht
  have CW : Hid (∀ W, Below w.heap.size w W → Calls Tryd.prog 43 #[.slice da d.length dc] W fun e w' => e = .returned (.int .i64 0) ∧ Below W.heap.size W w') := fun W hb => (asCome_impl _ _ _ _).mono (by rintro e w' ⟨rfl, rfl⟩; exact ⟨rfl, Below.refl _ _⟩)
  have EM : Hid (((0 : Nat) : Int) = 0) := rfl
  have LN : (([x0] : List Int).length : Nat) = 1 := rfl
  clear h2 ho ht hV z1 z2 z3 z4 H
  go_enter Tryd.func11, Tryd.ntmps11
  go_wp2_with fail
  refine (CO.out _ (bAlloc (Below.refl _ _) _)).mono ?_
  rintro e w1 ⟨rfl, hb⟩
  have B1 : Hid (Below w.heap.size w w1) := bTrans (bAlloc (Below.refl _ _) _) hb
  have X1 : Hid (Box w1 w.heap.size (.slice sa 1 sc) (.slice da d.length dc) 27) := (box_new w _ _ _).keep hb
  clear hb CO
  go_wp2_with fail
  refine (layouts_impl _).mono ?_
  rintro e w2 ⟨rfl, hb⟩
  have B2 : Hid (Below w.heap.size w w2) := bTrans B1.out hb
  have X2 : Hid (Box w2 w.heap.size (.slice sa 1 sc) (.slice da d.length dc) 27) := X1.out.keep hb
  clear hb X1
  go_wp2_with fail
  generalize hW : w2.alloc (.cells #[.func (.func 43) #[] #[], .string ⟨#[]⟩, .func (.func 43) #[] #[], .string ⟨#[]⟩, .func (.func 66) #[] #[], .string ⟨#[10]⟩, .func (.func 66) #[] #[], .string ⟨#[10, 10]⟩, .int .i64 0, .slice none 0 0, .slice none 0 0, .slice none 0 0, .slice none 0 0] 59) = w3
  have B23 : Hid (Below w2.heap.size w2 w3) := by rw [← hW]; exact bAlloc (Below.refl _ _) _
  have G3 : Hid (Sheet w3 w2.heap.size 0 (.slice none 0 0) (.slice none 0 0)) := by rw [← hW]; exact heap_alloc_new w2 _
  have B3 : Hid (Below w.heap.size w w3) := bTrans B2.out B23.out
  have X3 : Hid (Box w3 w.heap.size (.slice sa 1 sc) (.slice da d.length dc) 27) := X2.out.keep B23.out
  have SZ : Hid (w.heap.size < w2.heap.size) := X2.out.lt
  clear hW X2
  have SK : Hid (∀ W, Below w3.heap.size w3 W → W.cell? ⟨w.heap.size, 0, none⟩ = some (.slice sa 1 sc) ∧ W.cell? ⟨w.heap.size, 1, none⟩ = some (.slice da d.length dc) ∧ W.cell? ⟨w2.heap.size, 2, none⟩ = some (.func (.func 43) #[] #[])) := fun W hb => ⟨(X3.out.keep hb).c0, (X3.out.keep hb).c1, cell_at (G3.out.keep hb) rfl⟩
  have x0 := X3.out.c0
  have x1 := X3.out.c1
  have g0 : w3.cell? ⟨w2.heap.size, 2, none⟩ = some (.func (.func 43) #[] #[]) := cell_at G3.out rfl
  have ST : Hid (∀ W, Below w3.heap.size w3 W → Sheet (W.setCell ⟨w2.heap.size, 8, none⟩ (.int .i64 0)) w2.heap.size 0 (.slice none 0 0) (.slice none 0 0)) := fun W hb => by
    have := heap_setCell_same W w2.heap.size 8 _ _ (.int .i64 0) (G3.out.keep hb)
    rw [← EM.out] at this ⊢
    exact this
  go_region_held3 (fun w' => w'.cell? ⟨w.heap.size, 0, none⟩ = some (.slice sa 1 sc) ∧ w'.cell? ⟨w.heap.size, 1, none⟩ = some (.slice da d.length dc) ∧ w'.cell? ⟨w2.heap.size, 2, none⟩ = some (.func (.func 43) #[] #[]))
    ((first
      | (refine SK.out _ ?_; (repeat first | with_reducible exact HB4.out | with_reducible exact Below.refl _ _ | with_reducible refine Below.drew ?_); done)
      | exact ⟨(World.cell?_of_block (heap_setCell_other _ _ _ _ (Nat.ne_of_lt SZ.out))).trans (SK.out _ HB4.out).1, (World.cell?_of_block (heap_setCell_other _ _ _ _ (Nat.ne_of_lt SZ.out))).trans (SK.out _ HB4.out).2.1, cell_at (ST.out _ HB4.out) rfl⟩))
    ((go_at_call 43; refine (CW.out _ (bTrans B3.out ((Below.refl w3.heap.size w3).drew))).mono ?_; rintro r w4 ⟨rfl, hb⟩; have HB4 : Hid (Below w3.heap.size w3 w4) := bTrans ((Below.refl w3.heap.size w3).drew) hb; have wc : w4.cell? ⟨w2.heap.size, 8, none⟩ = some (.int .i64 0) := cell_at (G3.out.keep HB4.out) rfl; have wf : w4.frozen? ⟨w2.heap.size, 8, none⟩ = false := free_at (G3.out.keep HB4.out) _; clear hb))
  all_goals
    generalize hW : w4.setCell ⟨w2.heap.size, 8, none⟩ (.int .i64 0) = w5
    have G5 : Hid (Sheet w5 w2.heap.size 0 (.slice none 0 0) (.slice none 0 0)) := by rw [← hW]; exact ST.out _ HB4.out
    have B5 : Hid (Below w.heap.size w w5) := by rw [← hW]; exact below_setCell (bTrans B3.out HB4.out) (by have := SZ.out; omega) _ _
    have x5 : w5.cell? ⟨w.heap.size, 0, none⟩ = some (.slice sa 1 sc) := by rw [← hW]; exact (World.cell?_of_block (heap_setCell_other _ _ _ _ (Nat.ne_of_lt SZ.out))).trans (SK.out _ HB4.out).1
    have y5 : w5.cell? ⟨w.heap.size, 1, none⟩ = some (.slice da d.length dc) := by rw [← hW]; exact (World.cell?_of_block (heap_setCell_other _ _ _ _ (Nat.ne_of_lt SZ.out))).trans (SK.out _ HB4.out).2.1
    clear hW x0 x1 g0 wc wf
    go_wp2_with fail
    refine (CT.out _ _ B5.out (Nat.le_of_lt SZ.out) G5.out).mono ?_
    rintro e w6 ⟨rfl, hb⟩
    have B6 : Hid (Below w.heap.size w w6) := bTrans B5.out hb
    clear hb
    go_wp2
    go_ret
    exact ⟨rfl, B6.out⟩
set_option maxRecDepth 20000 in
set_option maxHeartbeats 8000000 in
theorem show2_impl {x0 x1 : Int} {d : List Int} {v : Value} {w : World} (h : ArrI w v [x0, x1] d) (ho : arrOk [x0, x1] d = true) (ht : TabW w) :
    Calls Tryd.prog 11 #[v] w fun e w' => e = .returned (.string (part2 (wideV d).toNat [x0, x1] d)) ∧ Below w.heap.size w w' := by
  obtain ⟨z1, z2, z3, z4⟩ := wide_bd ho
  have CO : Hid (∀ W, Below w.heap.size w W → Calls Tryd.prog 33 #[v] W fun e w' => e = .returned (.bool true) ∧ Below W.heap.size W w') := fun W hb => by
    have := arrOk_impl (h.keep hb) (by have := arrOk_len ho; omega)
    rw [ho] at this
    exact this
  have CT : Hid (∀ W g, Below w.heap.size w W → w.heap.size ≤ g → Sheet W g (wideV d).toNat (.slice none 0 0) (.slice none 0 0) → Calls Tryd.prog 35 #[.pointer (some ⟨g, 0, none⟩), v] W fun e w' => e = .returned (.string (part2 (wideV d).toNat [x0, x1] d)) ∧ Below W.heap.size W w') := fun W g hb hgg hg => text2_impl h ho rfl z4 hb hgg hg ht
  obtain ⟨V, hV⟩ : ∃ V, V = part2 (wideV d).toNat [x0, x1] d := ⟨_, rfl⟩
  rw [← hV] at CT ⊢
  have H := h
  obtain ⟨sa, sc, da, dc, rfl, _, h2, _, _⟩ := h
  have H2 : Hid (Ints w da d) := h2
  have HD : Hid (d.length ≤ 300) := arrOk_len ho
  have HT : Hid (TabW w) := ht
  have CW : Hid (∀ W, Below w.heap.size w W → Calls Tryd.prog 66 #[.slice da d.length dc] W fun e w' => e = .returned (.int .i64 (wideV d)) ∧ Below W.heap.size W w') := fun W hb => showWide_impl dc (H2.out.keep hb) (by have := HD.out; omega) (HT.out.on hb)
  have EM : Hid ((((wideV d).toNat : Nat) : Int) = (wideV d)) := z3
  have LN : (([x0, x1] : List Int).length : Nat) = 2 := rfl
  clear h2 ho ht hV z1 z2 z3 z4 H
  go_enter Tryd.func11, Tryd.ntmps11
  go_wp2_with fail
  refine (CO.out _ (bAlloc (Below.refl _ _) _)).mono ?_
  rintro e w1 ⟨rfl, hb⟩
  have B1 : Hid (Below w.heap.size w w1) := bTrans (bAlloc (Below.refl _ _) _) hb
  have X1 : Hid (Box w1 w.heap.size (.slice sa 2 sc) (.slice da d.length dc) 27) := (box_new w _ _ _).keep hb
  clear hb CO
  go_wp2_with fail
  refine (layouts_impl _).mono ?_
  rintro e w2 ⟨rfl, hb⟩
  have B2 : Hid (Below w.heap.size w w2) := bTrans B1.out hb
  have X2 : Hid (Box w2 w.heap.size (.slice sa 2 sc) (.slice da d.length dc) 27) := X1.out.keep hb
  clear hb X1
  go_wp2_with fail
  generalize hW : w2.alloc (.cells #[.func (.func 43) #[] #[], .string ⟨#[]⟩, .func (.func 43) #[] #[], .string ⟨#[]⟩, .func (.func 66) #[] #[], .string ⟨#[10]⟩, .func (.func 66) #[] #[], .string ⟨#[10, 10]⟩, .int .i64 0, .slice none 0 0, .slice none 0 0, .slice none 0 0, .slice none 0 0] 59) = w3
  have B23 : Hid (Below w2.heap.size w2 w3) := by rw [← hW]; exact bAlloc (Below.refl _ _) _
  have G3 : Hid (Sheet w3 w2.heap.size 0 (.slice none 0 0) (.slice none 0 0)) := by rw [← hW]; exact heap_alloc_new w2 _
  have B3 : Hid (Below w.heap.size w w3) := bTrans B2.out B23.out
  have X3 : Hid (Box w3 w.heap.size (.slice sa 2 sc) (.slice da d.length dc) 27) := X2.out.keep B23.out
  have SZ : Hid (w.heap.size < w2.heap.size) := X2.out.lt
  clear hW X2
  have SK : Hid (∀ W, Below w3.heap.size w3 W → W.cell? ⟨w.heap.size, 0, none⟩ = some (.slice sa 2 sc) ∧ W.cell? ⟨w.heap.size, 1, none⟩ = some (.slice da d.length dc) ∧ W.cell? ⟨w2.heap.size, 4, none⟩ = some (.func (.func 66) #[] #[])) := fun W hb => ⟨(X3.out.keep hb).c0, (X3.out.keep hb).c1, cell_at (G3.out.keep hb) rfl⟩
  have x0 := X3.out.c0
  have x1 := X3.out.c1
  have g0 : w3.cell? ⟨w2.heap.size, 4, none⟩ = some (.func (.func 66) #[] #[]) := cell_at G3.out rfl
  have ST : Hid (∀ W, Below w3.heap.size w3 W → Sheet (W.setCell ⟨w2.heap.size, 8, none⟩ (.int .i64 (wideV d))) w2.heap.size (wideV d).toNat (.slice none 0 0) (.slice none 0 0)) := fun W hb => by
    have := heap_setCell_same W w2.heap.size 8 _ _ (.int .i64 (wideV d)) (G3.out.keep hb)
    rw [← EM.out] at this ⊢
    exact this
  go_region_held3 (fun w' => w'.cell? ⟨w.heap.size, 0, none⟩ = some (.slice sa 2 sc) ∧ w'.cell? ⟨w.heap.size, 1, none⟩ = some (.slice da d.length dc) ∧ w'.cell? ⟨w2.heap.size, 4, none⟩ = some (.func (.func 66) #[] #[]))
    ((first
      | (refine SK.out _ ?_; (repeat first | with_reducible exact HB4.out | with_reducible exact Below.refl _ _ | with_reducible refine Below.drew ?_); done)
      | exact ⟨(World.cell?_of_block (heap_setCell_other _ _ _ _ (Nat.ne_of_lt SZ.out))).trans (SK.out _ HB4.out).1, (World.cell?_of_block (heap_setCell_other _ _ _ _ (Nat.ne_of_lt SZ.out))).trans (SK.out _ HB4.out).2.1, cell_at (ST.out _ HB4.out) rfl⟩))
    ((go_at_call 66; refine (CW.out _ (bTrans B3.out ((Below.refl w3.heap.size w3).drew))).mono ?_; rintro r w4 ⟨rfl, hb⟩; have HB4 : Hid (Below w3.heap.size w3 w4) := bTrans ((Below.refl w3.heap.size w3).drew) hb; have wc : w4.cell? ⟨w2.heap.size, 8, none⟩ = some (.int .i64 0) := cell_at (G3.out.keep HB4.out) rfl; have wf : w4.frozen? ⟨w2.heap.size, 8, none⟩ = false := free_at (G3.out.keep HB4.out) _; clear hb))
  all_goals
    generalize hW : w4.setCell ⟨w2.heap.size, 8, none⟩ (.int .i64 (wideV d)) = w5
    have G5 : Hid (Sheet w5 w2.heap.size (wideV d).toNat (.slice none 0 0) (.slice none 0 0)) := by rw [← hW]; exact ST.out _ HB4.out
    have B5 : Hid (Below w.heap.size w w5) := by rw [← hW]; exact below_setCell (bTrans B3.out HB4.out) (by have := SZ.out; omega) _ _
    have x5 : w5.cell? ⟨w.heap.size, 0, none⟩ = some (.slice sa 2 sc) := by rw [← hW]; exact (World.cell?_of_block (heap_setCell_other _ _ _ _ (Nat.ne_of_lt SZ.out))).trans (SK.out _ HB4.out).1
    have y5 : w5.cell? ⟨w.heap.size, 1, none⟩ = some (.slice da d.length dc) := by rw [← hW]; exact (World.cell?_of_block (heap_setCell_other _ _ _ _ (Nat.ne_of_lt SZ.out))).trans (SK.out _ HB4.out).2.1
    clear hW x0 x1 g0 wc wf
    go_wp2_with fail
    refine (CT.out _ _ B5.out (Nat.le_of_lt SZ.out) G5.out).mono ?_
    rintro e w6 ⟨rfl, hb⟩
    have B6 : Hid (Below w.heap.size w w6) := bTrans B5.out hb
    clear hb
    go_wp2
    go_ret
    exact ⟨rfl, B6.out⟩
set_option maxRecDepth 20000 in
set_option maxHeartbeats 8000000 in
theorem show3_impl {x0 x1 x2 : Int} {d : List Int} {v : Value} {w : World} (h : ArrI w v [x0, x1, x2] d) (ho : arrOk [x0, x1, x2] d = true) (ht : TabW w) :
    Calls Tryd.prog 11 #[v] w fun e w' => e = .returned (.string (part3 (wideV d).toNat [x0, x1, x2] d)) ∧ Below w.heap.size w w' := by
  obtain ⟨z1, z2, z3, z4⟩ := wide_bd ho
  have CO : Hid (∀ W, Below w.heap.size w W → Calls Tryd.prog 33 #[v] W fun e w' => e = .returned (.bool true) ∧ Below W.heap.size W w') := fun W hb => by
    have := arrOk_impl (h.keep hb) (by have := arrOk_len ho; omega)
    rw [ho] at this
    exact this
  have CT : Hid (∀ W g, Below w.heap.size w W → w.heap.size ≤ g → Sheet W g (wideV d).toNat (.slice none 0 0) (.slice none 0 0) → Calls Tryd.prog 35 #[.pointer (some ⟨g, 0, none⟩), v] W fun e w' => e = .returned (.string (part3 (wideV d).toNat [x0, x1, x2] d)) ∧ Below W.heap.size W w') := fun W g hb hgg hg => text3_impl h ho rfl z4 hb hgg hg ht
  obtain ⟨V, hV⟩ : ∃ V, V = part3 (wideV d).toNat [x0, x1, x2] d := ⟨_, rfl⟩
  rw [← hV] at CT ⊢
  have H := h
  obtain ⟨sa, sc, da, dc, rfl, _, h2, _, _⟩ := h
  have H2 : Hid (Ints w da d) := h2
  have HD : Hid (d.length ≤ 300) := arrOk_len ho
  have HT : Hid (TabW w) := ht
  have CW : Hid (∀ W, Below w.heap.size w W → Calls Tryd.prog 66 #[.slice da d.length dc] W fun e w' => e = .returned (.int .i64 (wideV d)) ∧ Below W.heap.size W w') := fun W hb => showWide_impl dc (H2.out.keep hb) (by have := HD.out; omega) (HT.out.on hb)
  have EM : Hid ((((wideV d).toNat : Nat) : Int) = (wideV d)) := z3
  have LN : (([x0, x1, x2] : List Int).length : Nat) = 3 := rfl
  clear h2 ho ht hV z1 z2 z3 z4 H
  go_enter Tryd.func11, Tryd.ntmps11
  go_wp2_with fail
  refine (CO.out _ (bAlloc (Below.refl _ _) _)).mono ?_
  rintro e w1 ⟨rfl, hb⟩
  have B1 : Hid (Below w.heap.size w w1) := bTrans (bAlloc (Below.refl _ _) _) hb
  have X1 : Hid (Box w1 w.heap.size (.slice sa 3 sc) (.slice da d.length dc) 27) := (box_new w _ _ _).keep hb
  clear hb CO
  go_wp2_with fail
  refine (layouts_impl _).mono ?_
  rintro e w2 ⟨rfl, hb⟩
  have B2 : Hid (Below w.heap.size w w2) := bTrans B1.out hb
  have X2 : Hid (Box w2 w.heap.size (.slice sa 3 sc) (.slice da d.length dc) 27) := X1.out.keep hb
  clear hb X1
  go_wp2_with fail
  generalize hW : w2.alloc (.cells #[.func (.func 43) #[] #[], .string ⟨#[]⟩, .func (.func 43) #[] #[], .string ⟨#[]⟩, .func (.func 66) #[] #[], .string ⟨#[10]⟩, .func (.func 66) #[] #[], .string ⟨#[10, 10]⟩, .int .i64 0, .slice none 0 0, .slice none 0 0, .slice none 0 0, .slice none 0 0] 59) = w3
  have B23 : Hid (Below w2.heap.size w2 w3) := by rw [← hW]; exact bAlloc (Below.refl _ _) _
  have G3 : Hid (Sheet w3 w2.heap.size 0 (.slice none 0 0) (.slice none 0 0)) := by rw [← hW]; exact heap_alloc_new w2 _
  have B3 : Hid (Below w.heap.size w w3) := bTrans B2.out B23.out
  have X3 : Hid (Box w3 w.heap.size (.slice sa 3 sc) (.slice da d.length dc) 27) := X2.out.keep B23.out
  have SZ : Hid (w.heap.size < w2.heap.size) := X2.out.lt
  clear hW X2
  have SK : Hid (∀ W, Below w3.heap.size w3 W → W.cell? ⟨w.heap.size, 0, none⟩ = some (.slice sa 3 sc) ∧ W.cell? ⟨w.heap.size, 1, none⟩ = some (.slice da d.length dc) ∧ W.cell? ⟨w2.heap.size, 6, none⟩ = some (.func (.func 66) #[] #[])) := fun W hb => ⟨(X3.out.keep hb).c0, (X3.out.keep hb).c1, cell_at (G3.out.keep hb) rfl⟩
  have x0 := X3.out.c0
  have x1 := X3.out.c1
  have g0 : w3.cell? ⟨w2.heap.size, 6, none⟩ = some (.func (.func 66) #[] #[]) := cell_at G3.out rfl
  have ST : Hid (∀ W, Below w3.heap.size w3 W → Sheet (W.setCell ⟨w2.heap.size, 8, none⟩ (.int .i64 (wideV d))) w2.heap.size (wideV d).toNat (.slice none 0 0) (.slice none 0 0)) := fun W hb => by
    have := heap_setCell_same W w2.heap.size 8 _ _ (.int .i64 (wideV d)) (G3.out.keep hb)
    rw [← EM.out] at this ⊢
    exact this
  go_region_held3 (fun w' => w'.cell? ⟨w.heap.size, 0, none⟩ = some (.slice sa 3 sc) ∧ w'.cell? ⟨w.heap.size, 1, none⟩ = some (.slice da d.length dc) ∧ w'.cell? ⟨w2.heap.size, 6, none⟩ = some (.func (.func 66) #[] #[]))
    ((first
      | (refine SK.out _ ?_; (repeat first | with_reducible exact HB4.out | with_reducible exact Below.refl _ _ | with_reducible refine Below.drew ?_); done)
      | exact ⟨(World.cell?_of_block (heap_setCell_other _ _ _ _ (Nat.ne_of_lt SZ.out))).trans (SK.out _ HB4.out).1, (World.cell?_of_block (heap_setCell_other _ _ _ _ (Nat.ne_of_lt SZ.out))).trans (SK.out _ HB4.out).2.1, cell_at (ST.out _ HB4.out) rfl⟩))
    ((go_at_call 66; refine (CW.out _ (bTrans B3.out ((Below.refl w3.heap.size w3).drew))).mono ?_; rintro r w4 ⟨rfl, hb⟩; have HB4 : Hid (Below w3.heap.size w3 w4) := bTrans ((Below.refl w3.heap.size w3).drew) hb; have wc : w4.cell? ⟨w2.heap.size, 8, none⟩ = some (.int .i64 0) := cell_at (G3.out.keep HB4.out) rfl; have wf : w4.frozen? ⟨w2.heap.size, 8, none⟩ = false := free_at (G3.out.keep HB4.out) _; clear hb))
  all_goals
    generalize hW : w4.setCell ⟨w2.heap.size, 8, none⟩ (.int .i64 (wideV d)) = w5
    have G5 : Hid (Sheet w5 w2.heap.size (wideV d).toNat (.slice none 0 0) (.slice none 0 0)) := by rw [← hW]; exact ST.out _ HB4.out
    have B5 : Hid (Below w.heap.size w w5) := by rw [← hW]; exact below_setCell (bTrans B3.out HB4.out) (by have := SZ.out; omega) _ _
    have x5 : w5.cell? ⟨w.heap.size, 0, none⟩ = some (.slice sa 3 sc) := by rw [← hW]; exact (World.cell?_of_block (heap_setCell_other _ _ _ _ (Nat.ne_of_lt SZ.out))).trans (SK.out _ HB4.out).1
    have y5 : w5.cell? ⟨w.heap.size, 1, none⟩ = some (.slice da d.length dc) := by rw [← hW]; exact (World.cell?_of_block (heap_setCell_other _ _ _ _ (Nat.ne_of_lt SZ.out))).trans (SK.out _ HB4.out).2.1
    clear hW x0 x1 g0 wc wf
    go_wp2_with fail
    refine (CT.out _ _ B5.out (Nat.le_of_lt SZ.out) G5.out).mono ?_
    rintro e w6 ⟨rfl, hb⟩
    have B6 : Hid (Below w.heap.size w w6) := bTrans B5.out hb
    clear hb
    go_wp2
    go_ret
    exact ⟨rfl, B6.out⟩
set_option maxRecDepth 20000 in
set_option maxHeartbeats 4000000 in
/-- The program's Show. -/
theorem show_impl {s d : List Int} {v : Value} {w : World} (h : ArrI w v s d) (hd : d.length ≤ 1048576) (ht : TabW w) :
    Calls Tryd.prog 11 #[v] w fun e w' => e = .returned (.string (showV s d)) ∧ Below w.heap.size w w' := by
  unfold showV
  cases ho : arrOk s d
  · rw [if_neg (by decide)]
    have CO : Hid (∀ W, Below w.heap.size w W → Calls Tryd.prog 33 #[v] W fun e w' => e = .returned (.bool false) ∧ Below W.heap.size W w') := fun W hb => by
      have := arrOk_impl (h.keep hb) hd
      rw [ho] at this
      exact this
    obtain ⟨sa, sc, da, dc, rfl, _, _, _, _⟩ := h
    clear ho ht
    go_enter Tryd.func11, Tryd.ntmps11
    go_wp2_with fail
    refine (CO.out _ (bAlloc (Below.refl _ _) _)).mono ?_
    rintro e w1 ⟨rfl, hb⟩
    have B1 : Hid (Below w.heap.size w w1) := bTrans (bAlloc (Below.refl _ _) _) hb
    clear hb CO
    go_wp2
    go_ret
    exact ⟨rfl, B1.out⟩
  · rw [if_pos rfl]
    have hl := (sizeV_ok (arrOk_shape ho)).1
    match s, hl with
    | [], _ => rw [if_pos (by decide)]; exact show0_impl h ho ht
    | [x0], _ => rw [if_pos (by simp)]; exact show1_impl h ho ht
    | [x0, x1], _ => rw [if_neg (by simp), if_pos (by simp)]; exact show2_impl h ho ht
    | [x0, x1, x2], _ => rw [if_neg (by simp), if_neg (by simp)]; exact show3_impl h ho ht
    | x0 :: x1 :: x2 :: x3 :: r, hl => simp at hl
end Go.Proofs.YtcaidhmolnnikaaDoor
