/-
  Proved: whatever bytes it is given, the law FnVectors returns true (drawn numbers are the vector of them, and a drawn number the scalar of it), and the bytes read as before. No condition.
-/
import Derived.Test.YtdafoccncnfcbabRows
import Derived.WalkKit
import Derived.ProofKit
import Derived.OpenShut
import Derived.ShutString
import Derived.ChangeOld
import Derived.Below
import Derived.Test.YtdafoccncnfcbabSpecArr2
import Derived.Test.YtdafoccncnfcbabLaw3
import Derived.Test.YtdafoccncnfcbabImplArr4
import Derived.Test.YtdafoccncnfcbabDrawArr
namespace Go.Proofs.Ytdafoccncnfcbab.fnVectors
open Go.ChangeShapes Go.WideShapes Go.ChangeAt Go.RowKit
open Go.ChangeMaps (open_string shut_string)
set_option linter.unusedVariables false
set_option linter.unusedSimpArgs false
set_option linter.unusedVariables false

theorem own : ownKnob Try.prog.godebug = none := by kernel_rfl
theorem laidOut : laidOutB Try.prog = true := by kernel_rfl

/-! ### STEP 1: THE WALK: the Go text returns true, AND WRITES NOTHING THAT WAS THERE: 'Below w.heap.size w w'' (Derived/Below.lean: '.refl', '.alloc', '.drew', '.setCell' at a new block, '.trans'). Open each 'IsRow' by 'rcases' AHEAD of 'go_enter'; part every test ahead of the walk. -/
set_option maxRecDepth 20000 in
set_option maxHeartbeats 8000000 in
theorem walk (a0 : Option Addr) (len0 cap0 : Nat) (z0 : List Int) (w : World) (w0 : IsRow .u8 w a0 len0 cap0 z0) :
    Calls Try.prog 7 #[.slice a0 len0 cap0] w fun e w' => e = .returned (.bool true) ∧ Below w.heap.size w w' := by
  have HS : Hid (Src w.heap.size w a0 len0) := src_of_row w0
  clear w0
  by_cases hbig : (1048576 : Int) < (len0 : Int)
  · go_enter Try.func7, Try.ntmps7
    go_wp2_with (go_at_call 8; refine (big_laws _ _ _ _).mono ?_; rintro e w' ⟨rfl, hw⟩; subst w')
    go_ret
    exact ⟨rfl, Below.refl _ _⟩
  have hb20 : len0 ≤ 1048576 := by omega
  go_enter Try.func7, Try.ntmps7
  go_wp2_with (go_at_call 8; refine (big_laws _ _ _ _).mono ?_; rintro e w' ⟨rfl, hw⟩; subst w')
  refine (drawVector_spec HS.out hb20).mono ?_
  rintro r w1 ⟨v1, l, rfl, hl, hn, hb⟩
  obtain ⟨a1, c1, rfl, _⟩ := hn.ints
  have N_1 : Hid (Piece w.heap.size w1.heap.size w1 (.slice a1 l.length c1) l) := hn.piece
  have LL : Hid (l.length ≤ 1048576) := by show _ ≤ _; omega
  have HT1 : Hid (Below w.heap.size w w1) := hb
  have SZ1 : Hid (w.heap.size ≤ w1.heap.size) := hb.size
  clear hb hn hl
  obtain ⟨V, hV⟩ : ∃ x, x = vecOk l := ⟨_, rfl⟩
  obtain ⟨S, hS⟩ : ∃ x, x = (if vecOk l = true then [(l.length : Int)] else []) := ⟨_, rfl⟩
  obtain ⟨D, hD⟩ : ∃ x, x = (if vecOk l = true then l else []) := ⟨_, rfl⟩
  have VT : Hid (V = true → S = [(l.length : Int)] ∧ D = l ∧ arrOk [(l.length : Int)] l = true) := by
    intro h
    rw [hV] at h
    rw [hS, hD, if_pos h, if_pos h]
    exact ⟨rfl, rfl, h⟩
  have CI : Hid (∀ (W : World) (u : Value), IntsI W u l → Calls Try.prog 35 #[u] W fun e w' => ∃ v, e = .returned (.tuple #[v, .bool V]) ∧ Arr W.heap.size w'.heap.size w' v S D ∧ Below W.heap.size W w') := by
    intro W u h
    rw [hV, hS, hD]
    exact vectorOf_impl h LL.out
  have CS : Hid (∀ (W : World) (u : Value), IntsI W u l → Calls Try.prog 36 #[u] W fun e w' => ∃ v, e = .returned (.tuple #[v, .bool V]) ∧ Arr W.heap.size w'.heap.size w' v S D ∧ Below W.heap.size W w') := by
    intro W u h
    rw [hV, hS, hD]
    obtain ⟨a, c, rfl, _, i⟩ := h
    exact vectorOf_spec c i LL.out
  have hneV : (V != V) = false := by simp
  clear hV hS hD
  go_wp2_with fail
  refine (CI.out _ _ (N_1.out.intsI)).mono ?_
  rintro r w2 ⟨vG, rfl, ha, hb⟩
  obtain ⟨aG, cG, bG, eG, rfl, _, _, _, _⟩ := ha.arrI
  have G_2 : Hid (Arr w1.heap.size w2.heap.size w2 (.agg #[.slice aG S.length cG, .slice bG D.length eG]) S D) := ha.mono (by first | exact Nat.le_refl _ | simp | (simp; omega)) (Nat.le_refl _)
  clear ha
  have HB2 : Hid (Below w1.heap.size w1 w2) := hb
  have HT2 : Hid (Below w.heap.size w w2) := bTrans HT1.out HB2.out
  have SZ2 : Hid (w1.heap.size ≤ w2.heap.size) := HB2.out.size
  have N_2 : Hid (Piece w.heap.size w1.heap.size w2 (.slice a1 l.length c1) l) := N_1.out.keep HB2.out
  clear N_1 hb
  go_wp2_with fail
  refine (CS.out _ _ ((N_2.out.intsI).keep (bAlloc (Below.refl _ _) _))).mono ?_
  rintro r w3 ⟨vW, rfl, ha, hb⟩
  obtain ⟨aW, cW, bW, eW, rfl, _, _, _, _⟩ := ha.arrI
  have W_3 : Hid (Arr (w2.heap.size + 1) w3.heap.size w3 (.agg #[.slice aW S.length cW, .slice bW D.length eW]) S D) := ha.mono (by first | exact Nat.le_refl _ | simp | (simp; omega)) (Nat.le_refl _)
  clear ha
  have HB3 : Hid (Below w2.heap.size w2 w3) := bTrans (bAlloc (Below.refl _ _) _) hb
  have HT3 : Hid (Below w.heap.size w w3) := bTrans HT2.out HB3.out
  have SZ3 : Hid (w2.heap.size ≤ w3.heap.size) := HB3.out.size
  have N_3 : Hid (Piece w.heap.size w1.heap.size w3 (.slice a1 l.length c1) l) := N_2.out.keep HB3.out
  have G_3 : Hid (Arr w1.heap.size w2.heap.size w3 (.agg #[.slice aG S.length cG, .slice bG D.length eG]) S D) := G_2.out.keep HB3.out
  have QG_3 : Hid (Box w3 w2.heap.size (.slice aG S.length cG) (.slice bG D.length eG) 43) := (box_new w2 _ _ _).keep hb
  have LTQG : Hid (w2.heap.size < w3.heap.size) := QG_3.out.lt
  clear N_2 G_2 hb
  have QGc0 := QG_3.out.c0
  have QGc1 := QG_3.out.c1
  have QGd0 : ∀ o : Obj, (w3.alloc o).cell? ⟨w2.heap.size, 0, none⟩ = some (.slice aG S.length cG) := fun o => (QG_3.out.keep (bAlloc (Below.refl _ _) o)).c0
  have QGd1 : ∀ o : Obj, (w3.alloc o).cell? ⟨w2.heap.size, 1, none⟩ = some (.slice bG D.length eG) := fun o => (QG_3.out.keep (bAlloc (Below.refl _ _) o)).c1
  go_wp2_with fail
  refine (drawScalar_spec (srcKeep HS.out (bTrans HT3.out (bAlloc (Below.refl _ _) _))) hb20).mono ?_
  rintro r w4 ⟨x, rfl, hb⟩
  have HB4 : Hid (Below w3.heap.size w3 w4) := bTrans (bAlloc (Below.refl _ _) _) hb
  have HT4 : Hid (Below w.heap.size w w4) := bTrans HT3.out HB4.out
  have SZ4 : Hid (w3.heap.size ≤ w4.heap.size) := HB4.out.size
  have QG_4 : Hid (Box w4 w2.heap.size (.slice aG S.length cG) (.slice bG D.length eG) 43) := QG_3.out.keep HB4.out
  have N_4 : Hid (Piece w.heap.size w1.heap.size w4 (.slice a1 l.length c1) l) := N_3.out.keep HB4.out
  have G_4 : Hid (Arr w1.heap.size w2.heap.size w4 (.agg #[.slice aG S.length cG, .slice bG D.length eG]) S D) := G_3.out.keep HB4.out
  have QW_4 : Hid (Box w4 w3.heap.size (.slice aW S.length cW) (.slice bW D.length eW) 43) := (box_new w3 _ _ _).keep hb
  have LTQW : Hid (w3.heap.size < w4.heap.size) := QW_4.out.lt
  clear QG_3 N_3 G_3 QGc0 QGc1 QGd0 QGd1 hb
  have QGc0 := QG_4.out.c0
  have QGc1 := QG_4.out.c1
  have QWc0 := QW_4.out.c0
  have QWc1 := QW_4.out.c1
  obtain ⟨U, hU⟩ : ∃ y, y = ok x := ⟨_, rfl⟩
  obtain ⟨E, hE⟩ : ∃ y, y = (if ok x = true then [x] else []) := ⟨_, rfl⟩
  obtain ⟨Z, hZ⟩ : ∃ y, y = numAtV [] E [] := ⟨_, rfl⟩
  obtain ⟨A, hA⟩ : ∃ y, y = numAtOk [] E [] := ⟨_, rfl⟩
  have UT : Hid (U = true → E.length = 1 ∧ A = true ∧ Z = x) := by
    intro h
    rw [hU] at h
    rw [hA, hZ, hE, if_pos h]
    have q : numAtOk [] [x] [] = true := by simp [numAtOk, arrOk, sizeV_0', placeV, inOk, hor, sizeV, prodV, h]
    exact ⟨rfl, q, by rw [numAt_good q]; simp [placeV, inOk, hor, sizeV, prodV]⟩
  have UF : Hid (U = false → E.length = 0) := by
    intro h
    rw [hU] at h
    rw [hE, h]
    rfl
  have LE : Hid (E.length ≤ 1048576) := by show _ ≤ _; rw [hE]; split <;> simp
  have CX : Hid (∀ (W : World), Calls Try.prog 38 #[.int .i64 x] W fun e w' => ∃ v, e = .returned (.tuple #[v, .bool U]) ∧ Arr W.heap.size w'.heap.size w' v [] E ∧ Below W.heap.size W w') := by
    intro W
    rw [hU, hE]
    exact scalarOf_impl x W
  have NS : Hid (∀ (W : World), Calls Try.prog 39 #[.int .i64 x] W fun e w' => e = .returned (.bool U) ∧ w' = W) := fun W => hU ▸ numOk_spec x W
  have NI : Hid (∀ (W : World), Calls Try.prog 14 #[.int .i64 x] W fun e w' => e = .returned (.bool U) ∧ w' = W) := fun W => hU ▸ numOk_impl x W
  have CN : Hid (∀ (W : World) (u t : Value), ArrI W u [] E → IntsI W t [] → Calls Try.prog 33 #[u, t] W fun e w' => e = .returned (.tuple #[.int .i64 Z, .bool A]) ∧ Below W.heap.size W w') := by
    intro W u t h k
    rw [hZ, hA]
    exact numAt_impl h k (by simp) LE.out (by simp)
  have hneU : (U != U) = false := by simp
  clear hU hE hZ hA
  go_wp2_with fail
  refine (CX.out _).mono ?_
  rintro r w5 ⟨vX, rfl, ha, hb⟩
  obtain ⟨aX, cX, bX, eX, rfl, _, _, _, _⟩ := ha.arrI
  have X_5 : Hid (Arr w4.heap.size w5.heap.size w5 (.agg #[.slice aX 0 cX, .slice bX E.length eX]) [] E) := ha.mono (by first | exact Nat.le_refl _ | simp | (simp; omega)) (Nat.le_refl _)
  clear ha
  have HB5 : Hid (Below w4.heap.size w4 w5) := hb
  have HT5 : Hid (Below w.heap.size w w5) := bTrans HT4.out HB5.out
  have SZ5 : Hid (w4.heap.size ≤ w5.heap.size) := HB5.out.size
  have QG_5 : Hid (Box w5 w2.heap.size (.slice aG S.length cG) (.slice bG D.length eG) 43) := QG_4.out.keep HB5.out
  have QW_5 : Hid (Box w5 w3.heap.size (.slice aW S.length cW) (.slice bW D.length eW) 43) := QW_4.out.keep HB5.out
  have N_5 : Hid (Piece w.heap.size w1.heap.size w5 (.slice a1 l.length c1) l) := N_4.out.keep HB5.out
  have G_5 : Hid (Arr w1.heap.size w2.heap.size w5 (.agg #[.slice aG S.length cG, .slice bG D.length eG]) S D) := G_4.out.keep HB5.out
  clear QG_4 QW_4 N_4 G_4 QGc0 QGc1 QWc0 QWc1 hb
  simp only [List.length_nil]
  have QGc0 := QG_5.out.c0
  have QGc1 := QG_5.out.c1
  have QGd0 : ∀ o : Obj, (w5.alloc o).cell? ⟨w2.heap.size, 0, none⟩ = some (.slice aG S.length cG) := fun o => (QG_5.out.keep (bAlloc (Below.refl _ _) o)).c0
  have QGd1 : ∀ o : Obj, (w5.alloc o).cell? ⟨w2.heap.size, 1, none⟩ = some (.slice bG D.length eG) := fun o => (QG_5.out.keep (bAlloc (Below.refl _ _) o)).c1
  have QWc0 := QW_5.out.c0
  have QWc1 := QW_5.out.c1
  have QWd0 : ∀ o : Obj, (w5.alloc o).cell? ⟨w3.heap.size, 0, none⟩ = some (.slice aW S.length cW) := fun o => (QW_5.out.keep (bAlloc (Below.refl _ _) o)).c0
  have QWd1 : ∀ o : Obj, (w5.alloc o).cell? ⟨w3.heap.size, 1, none⟩ = some (.slice bW D.length eW) := fun o => (QW_5.out.keep (bAlloc (Below.refl _ _) o)).c1
  go_wp2_with fail
  refine (NS.out _).mono ?_
  rintro r w' ⟨rfl, hw⟩
  subst w'
  go_wp2_with fail
  refine (NI.out _).mono ?_
  rintro r w' ⟨rfl, hw⟩
  subst w'
  cases V
  · go_wp2_with fail
    refine (CN.out _ _ _ ((X_5.out.arrI).keep (bAlloc (Below.refl _ _) _)) ⟨none, 0, rfl, Nat.le_refl _, .inl rfl⟩).mono ?_
    rintro r w6 ⟨rfl, hb⟩
    have HB6 : Hid (Below w5.heap.size w5 w6) := bTrans (bAlloc (Below.refl _ _) _) hb
    have HT6 : Hid (Below w.heap.size w w6) := bTrans HT5.out HB6.out
    have SZ6 : Hid (w5.heap.size ≤ w6.heap.size) := HB6.out.size
    have QG_6 : Hid (Box w6 w2.heap.size (.slice aG S.length cG) (.slice bG D.length eG) 43) := QG_5.out.keep HB6.out
    have QW_6 : Hid (Box w6 w3.heap.size (.slice aW S.length cW) (.slice bW D.length eW) 43) := QW_5.out.keep HB6.out
    have N_6 : Hid (Piece w.heap.size w1.heap.size w6 (.slice a1 l.length c1) l) := N_5.out.keep HB6.out
    have G_6 : Hid (Arr w1.heap.size w2.heap.size w6 (.agg #[.slice aG S.length cG, .slice bG D.length eG]) S D) := G_5.out.keep HB6.out
    have X_6 : Hid (Arr w4.heap.size w5.heap.size w6 (.agg #[.slice aX 0 cX, .slice bX E.length eX]) [] E) := X_5.out.keep HB6.out
    have QX_6 : Hid (Box w6 w5.heap.size (.slice aX 0 cX) (.slice bX E.length eX) 43) := (box_new w5 _ _ _).keep hb
    have LTQX : Hid (w5.heap.size < w6.heap.size) := QX_6.out.lt
    clear QG_5 QW_5 N_5 G_5 X_5 QGc0 QGc1 QGd0 QGd1 QWc0 QWc1 QWd0 QWd1 hb
    have QGc0 := QG_6.out.c0
    have QGc1 := QG_6.out.c1
    have QWc0 := QW_6.out.c0
    have QWc1 := QW_6.out.c1
    have QXc0 := QX_6.out.c0
    have QXc1 := QX_6.out.c1
    cases U
    · have hE0 : ((E.length : Int) == 0) = true := by simp [UF.out rfl]
      go_wp2
      go_ret
      exact ⟨by simp [hE0], HT6.out⟩
    · obtain ⟨hE, rfl, rfl⟩ := UT.out rfl
      go_wp2
      go_ret
      exact ⟨by simp, HT6.out⟩
  have SD : Hid (S = [(l.length : Int)] ∧ D = l ∧ arrOk [(l.length : Int)] l = true) := VT.out rfl
  have LS : Hid (S.length ≤ 1048576) := by show _ ≤ _; rw [SD.out.1]; simp
  have LD : Hid (D.length ≤ 1048576) := by show _ ≤ _; rw [SD.out.2.1]; exact LL.out
  have CD : Hid (∀ W, IntsI W (.slice bG D.length eG) D → IntsI W (.slice a1 l.length c1) l → Calls Try.prog 18 #[.slice bG D.length eG, .slice a1 l.length c1] W fun e w' => e = .returned (.bool true) ∧ Below W.heap.size W w') := by
    intro W h k
    obtain ⟨p, q, e1, _, h⟩ := h
    cases e1
    obtain ⟨p, q, e1, _, k⟩ := k
    cases e1
    refine (same_ints _ _ (by have := LD.out; omega) h k).mono ?_
    rintro r w' ⟨rfl, n, rfl⟩
    exact ⟨by simp [SD.out.2.1], bDrewN (Below.refl _ _) n⟩
  have CE : Hid (∀ W b, IntsI W (.slice aG S.length cG) S → Ints W b [(l.length : Int)] → Calls Try.prog 18 #[.slice aG S.length cG, .slice b 1 1] W fun e w' => e = .returned (.bool true) ∧ Below W.heap.size W w') := by
    intro W b h k
    obtain ⟨p, q, e1, _, h⟩ := h
    cases e1
    refine (same_ints (m := [(l.length : Int)]) _ 1 (by have := LS.out; omega) h k).mono ?_
    rintro r w' ⟨rfl, n, rfl⟩
    exact ⟨by simp [SD.out.1], bDrewN (Below.refl _ _) n⟩
  have CO : Hid (∀ W u, ArrI W u S D → Calls Try.prog 32 #[u] W fun e w' => e = .returned (.bool true) ∧ Below W.heap.size W w') := by
    intro W u h
    have q := arrOk_impl h LD.out
    rw [show arrOk S D = true by rw [SD.out.1, SD.out.2.1]; exact SD.out.2.2] at q
    exact q
  have gI_5 : Hid (IntsI w5 (.slice aG S.length cG) S ∧ IntsI w5 (.slice bG D.length eG) D) := by obtain ⟨p, q, e1, h1, h2, _⟩ := G_5.out; cases e1; exact ⟨h1.intsI, h2.intsI⟩
  go_wp2_with fail
  refine (CD.out _ ((gI_5.out.2).keep (bAlloc (Below.refl _ _) _)) ((N_5.out.intsI).keep (bAlloc (Below.refl _ _) _))).mono ?_
  rintro r w6 ⟨rfl, hb⟩
  have HB6 : Hid (Below w5.heap.size w5 w6) := bTrans (bAlloc (Below.refl _ _) _) hb
  have HT6 : Hid (Below w.heap.size w w6) := bTrans HT5.out HB6.out
  have SZ6 : Hid (w5.heap.size ≤ w6.heap.size) := HB6.out.size
  have QG_6 : Hid (Box w6 w2.heap.size (.slice aG S.length cG) (.slice bG D.length eG) 43) := QG_5.out.keep HB6.out
  have QW_6 : Hid (Box w6 w3.heap.size (.slice aW S.length cW) (.slice bW D.length eW) 43) := QW_5.out.keep HB6.out
  have N_6 : Hid (Piece w.heap.size w1.heap.size w6 (.slice a1 l.length c1) l) := N_5.out.keep HB6.out
  have G_6 : Hid (Arr w1.heap.size w2.heap.size w6 (.agg #[.slice aG S.length cG, .slice bG D.length eG]) S D) := G_5.out.keep HB6.out
  have X_6 : Hid (Arr w4.heap.size w5.heap.size w6 (.agg #[.slice aX 0 cX, .slice bX E.length eX]) [] E) := X_5.out.keep HB6.out
  have QX_6 : Hid (Box w6 w5.heap.size (.slice aX 0 cX) (.slice bX E.length eX) 43) := (box_new w5 _ _ _).keep hb
  have LTQX : Hid (w5.heap.size < w6.heap.size) := QX_6.out.lt
  clear QG_5 QW_5 N_5 G_5 X_5 QGc0 QGc1 QGd0 QGd1 QWc0 QWc1 QWd0 QWd1 hb
  clear gI_5
  have QGc0 := QG_6.out.c0
  have QGc1 := QG_6.out.c1
  have QWc0 := QW_6.out.c0
  have QWc1 := QW_6.out.c1
  have QXc0 := QX_6.out.c0
  have QXc1 := QX_6.out.c1
  have gI_6 : Hid (IntsI w6 (.slice aG S.length cG) S ∧ IntsI w6 (.slice bG D.length eG) D) := by obtain ⟨p, q, e1, h1, h2, _⟩ := G_6.out; cases e1; exact ⟨h1.intsI, h2.intsI⟩
  have pd : ∀ o : Obj, Below w6.heap.size w6 (w6.alloc o) := fun o => bAlloc (Below.refl _ _) o
  clear pd
  have QGd0 : ∀ o : Obj, (w6.alloc o).cell? ⟨w2.heap.size, 0, none⟩ = some (.slice aG S.length cG) := fun o => (QG_6.out.keep (bAlloc (Below.refl _ _) o)).c0
  have QGd1 : ∀ o : Obj, (w6.alloc o).cell? ⟨w2.heap.size, 1, none⟩ = some (.slice bG D.length eG) := fun o => (QG_6.out.keep (bAlloc (Below.refl _ _) o)).c1
  have QWd0 : ∀ o : Obj, (w6.alloc o).cell? ⟨w3.heap.size, 0, none⟩ = some (.slice aW S.length cW) := fun o => (QW_6.out.keep (bAlloc (Below.refl _ _) o)).c0
  have QWd1 : ∀ o : Obj, (w6.alloc o).cell? ⟨w3.heap.size, 1, none⟩ = some (.slice bW D.length eW) := fun o => (QW_6.out.keep (bAlloc (Below.refl _ _) o)).c1
  have QXd0 : ∀ o : Obj, (w6.alloc o).cell? ⟨w5.heap.size, 0, none⟩ = some (.slice aX 0 cX) := fun o => (QX_6.out.keep (bAlloc (Below.refl _ _) o)).c0
  have QXd1 : ∀ o : Obj, (w6.alloc o).cell? ⟨w5.heap.size, 1, none⟩ = some (.slice bX E.length eX) := fun o => (QX_6.out.keep (bAlloc (Below.refl _ _) o)).c1
  go_wp2_with fail
  refine (CE.out _ _ (gI_6.out.1.keep (bAlloc (Below.refl _ _) _)) (ints_new w6 [(l.length : Int)] _)).mono ?_
  rintro r w7 ⟨rfl, hb⟩
  have HB7 : Hid (Below w6.heap.size w6 w7) := bTrans (bAlloc (Below.refl _ _) _) hb
  have HT7 : Hid (Below w.heap.size w w7) := bTrans HT6.out HB7.out
  have SZ7 : Hid (w6.heap.size ≤ w7.heap.size) := HB7.out.size
  have QG_7 : Hid (Box w7 w2.heap.size (.slice aG S.length cG) (.slice bG D.length eG) 43) := QG_6.out.keep HB7.out
  have QW_7 : Hid (Box w7 w3.heap.size (.slice aW S.length cW) (.slice bW D.length eW) 43) := QW_6.out.keep HB7.out
  have QX_7 : Hid (Box w7 w5.heap.size (.slice aX 0 cX) (.slice bX E.length eX) 43) := QX_6.out.keep HB7.out
  have N_7 : Hid (Piece w.heap.size w1.heap.size w7 (.slice a1 l.length c1) l) := N_6.out.keep HB7.out
  have G_7 : Hid (Arr w1.heap.size w2.heap.size w7 (.agg #[.slice aG S.length cG, .slice bG D.length eG]) S D) := G_6.out.keep HB7.out
  have X_7 : Hid (Arr w4.heap.size w5.heap.size w7 (.agg #[.slice aX 0 cX, .slice bX E.length eX]) [] E) := X_6.out.keep HB7.out
  clear QG_6 QW_6 QX_6 N_6 G_6 X_6 QGc0 QGc1 QWc0 QWc1 QXc0 QXc1 QGd0 QGd1 QWd0 QWd1 QXd0 QXd1 hb gI_6
  have QGc0 := QG_7.out.c0
  have QGc1 := QG_7.out.c1
  have QWc0 := QW_7.out.c0
  have QWc1 := QW_7.out.c1
  have QXc0 := QX_7.out.c0
  have QXc1 := QX_7.out.c1
  go_wp2_with fail
  refine (CO.out _ _ (G_7.out.arrI)).mono ?_
  rintro r w8 ⟨rfl, hb⟩
  have HB8 : Hid (Below w7.heap.size w7 w8) := hb
  have HT8 : Hid (Below w.heap.size w w8) := bTrans HT7.out HB8.out
  have SZ8 : Hid (w7.heap.size ≤ w8.heap.size) := HB8.out.size
  have QG_8 : Hid (Box w8 w2.heap.size (.slice aG S.length cG) (.slice bG D.length eG) 43) := QG_7.out.keep HB8.out
  have QW_8 : Hid (Box w8 w3.heap.size (.slice aW S.length cW) (.slice bW D.length eW) 43) := QW_7.out.keep HB8.out
  have QX_8 : Hid (Box w8 w5.heap.size (.slice aX 0 cX) (.slice bX E.length eX) 43) := QX_7.out.keep HB8.out
  have N_8 : Hid (Piece w.heap.size w1.heap.size w8 (.slice a1 l.length c1) l) := N_7.out.keep HB8.out
  have G_8 : Hid (Arr w1.heap.size w2.heap.size w8 (.agg #[.slice aG S.length cG, .slice bG D.length eG]) S D) := G_7.out.keep HB8.out
  have X_8 : Hid (Arr w4.heap.size w5.heap.size w8 (.agg #[.slice aX 0 cX, .slice bX E.length eX]) [] E) := X_7.out.keep HB8.out
  clear QG_7 QW_7 QX_7 N_7 G_7 X_7 QGc0 QGc1 QWc0 QWc1 QXc0 QXc1 hb
  have QGc0 := QG_8.out.c0
  have QGc1 := QG_8.out.c1
  have QWc0 := QW_8.out.c0
  have QWc1 := QW_8.out.c1
  have QXc0 := QX_8.out.c0
  have QXc1 := QX_8.out.c1
  go_wp2_with fail
  refine (CN.out _ _ _ (X_8.out.arrI) ⟨none, 0, rfl, Nat.le_refl _, .inl rfl⟩).mono ?_
  rintro r w9 ⟨rfl, hb⟩
  have HB9 : Hid (Below w8.heap.size w8 w9) := hb
  have HT9 : Hid (Below w.heap.size w w9) := bTrans HT8.out HB9.out
  have SZ9 : Hid (w8.heap.size ≤ w9.heap.size) := HB9.out.size
  have QG_9 : Hid (Box w9 w2.heap.size (.slice aG S.length cG) (.slice bG D.length eG) 43) := QG_8.out.keep HB9.out
  have QW_9 : Hid (Box w9 w3.heap.size (.slice aW S.length cW) (.slice bW D.length eW) 43) := QW_8.out.keep HB9.out
  have QX_9 : Hid (Box w9 w5.heap.size (.slice aX 0 cX) (.slice bX E.length eX) 43) := QX_8.out.keep HB9.out
  have N_9 : Hid (Piece w.heap.size w1.heap.size w9 (.slice a1 l.length c1) l) := N_8.out.keep HB9.out
  have G_9 : Hid (Arr w1.heap.size w2.heap.size w9 (.agg #[.slice aG S.length cG, .slice bG D.length eG]) S D) := G_8.out.keep HB9.out
  have X_9 : Hid (Arr w4.heap.size w5.heap.size w9 (.agg #[.slice aX 0 cX, .slice bX E.length eX]) [] E) := X_8.out.keep HB9.out
  clear QG_8 QW_8 QX_8 N_8 G_8 X_8 QGc0 QGc1 QWc0 QWc1 QXc0 QXc1 hb
  have QGc0 := QG_9.out.c0
  have QGc1 := QG_9.out.c1
  have QWc0 := QW_9.out.c0
  have QWc1 := QW_9.out.c1
  have QXc0 := QX_9.out.c0
  have QXc1 := QX_9.out.c1
  cases U
  · have hE0 : ((E.length : Int) == 0) = true := by simp [UF.out rfl]
    go_wp2
    go_ret
    exact ⟨by simp [hE0], HT9.out⟩
  · obtain ⟨hE, rfl, rfl⟩ := UT.out rfl
    go_wp2
    go_ret
    exact ⟨by simp, HT9.out⟩

/-! ### THE ROW's STEP: WRITTEN OUT: LEAVE IT -/
set_option maxRecDepth 100000 in
theorem lifted (os : Os) (started : os.Started) (H : Type) (enc : TypeId × Value → H) :
    ReturnsInHanded {} Try.checked os 7 .any (Rows.fnVectorsSpec.pre6 enc Try.prog Try.f7 Rows.fnVectorsRow.domain false) (Rows.fnVectorsSpec.post enc Try.prog Try.f7 false true false false) := by
  refine returnsInHanded_of_change (C := Try.checked) own started (by kernel_rfl) Try.func7
    (ChangeSpec.witness6 (enc := enc) (C := Try.checked) false ⟨#[], #[.slice none 0 0], []⟩ 8 (by kernel_rfl) (by kernel_rfl) (by kernel_rfl) (by kernel_rfl)) ?_
  intro W base args ds gs before hval0 hW hcnd _
  have hval : ∀ (j : Nat) t v, Try.f7.params[j]? = some t → args[j]? = some v → Value.okWide Try.prog W .any base t v := hval0
  have hW' := hW
  obtain ⟨p, q, hA0, hV, rfl, hfz, hnd⟩ := hW
  have hA : DataW.TrodAll enc Try.prog W 0 (fun _ => true) true Try.f7.params.toList args.toList ds p := hA0
  rw [Try.params7] at hA hval
  obtain ⟨v0, vs0, d0, ds0, p0, q0, hargs, rfl, rfl, h0, r0⟩ := trodAll_cons hA
  obtain ⟨rfl, rfl, rfl⟩ := trodAll_nil r0
  obtain rfl : args = #[v0] := by cases args; simp_all
  obtain ⟨rfl, rfl⟩ := trodVars_none hV
  obtain ⟨a0, len0, cap0, rfl⟩ := okWide_slice Try.underlying22 (hval 0 22 v0 rfl rfl)
  have k0 := h0
  have lt0 : ∀ x ∈ p0, x.block < W.heap.size := by obtain ⟨m, hm⟩ := k0; exact DataW.trod_lt m _ _ _ hm
  obtain ⟨z0, w0⟩ : ∃ zs, IsRow .u8 W a0 len0 cap0 zs := by
    obtain ⟨fuel, hf⟩ := h0
    rcases open_ints Try.underlying22 Try.underlying5 (by kernel_rfl) hf with ⟨hcs, _⟩ | ⟨x, l, c, zs, hcs, _, hl, hm, hz, _, hcell, hwz⟩
    · simp [Value.cells] at hcs
      obtain ⟨rfl, rfl, rfl⟩ := hcs
      exact ⟨[], .inl ⟨rfl, rfl, rfl, rfl⟩⟩
    · simp [Value.cells] at hcs
      obtain ⟨rfl, rfl, rfl⟩ := hcs
      exact ⟨zs, .inr ⟨_, rfl, hl, hm, by simpa using hz, hcell, hwz⟩⟩
  clear hA0 hval0
  refine (walk a0 len0 cap0 z0 W w0).mono fun e W' ⟨he, bel⟩ => ?_
  subst he
  exact ⟨_, rfl, _, _, _, [], _, [], hW', trodAll_mk1 (shut_bool Try.underlying4 _), (trodAll_cons_mk (Below.trod laidOut (by kernel_rfl) (of_decide_eq_true (by kernel_rfl)) k0 bel lt0) trodAll_mk0), rfl, bel.frame _, fun h => by cases h⟩

theorem over : Rows.fnVectorsRow.holds Try.pinned (OpenSpec.ofChange Rows.fnVectorsSpec) :=
  OpenClaim.holds_of_wide 7 Try.f7 rfl rfl rfl rfl rfl rfl rfl ⟨rfl, rfl, rfl, rfl, rfl⟩ rfl rfl rfl rfl rfl (by kernel_rfl) Try.func7 (by kernel_rfl)
    (of_decide_eq_true (by kernel_rfl)) (by unfold Func.isWrapper; first | (rw [if_pos (by decide +kernel)]; kernel_rfl) | (rw [if_neg (by decide +kernel)]; exact ⟨rfl, rfl⟩))
    (fun os started H enc _ => lifted os started H enc)

/-- ████ THE STATEMENT ████ -/
theorem proved : Rows.FnVectorsSaid := over
end Go.Proofs.Ytdafoccncnfcbab.fnVectors
namespace Go.Proofs.Ytdafoccncnfcbab
theorem fnVectors_holds : Rows.FnVectorsSaid := fnVectors.proved
#print axioms fnVectors_holds
end Go.Proofs.Ytdafoccncnfcbab
