/-
  Proved: whatever code it is given, the law FnOuter returns true: between all of two drawn arrays each number stands with each; flipped it is the other way round, of what does not hang on the side. No condition.
-/
import Derived.Test.YtcpgdhffemecbaaRows
import Derived.WalkKit
import Derived.ProofKit
import Derived.OpenShut
import Derived.ShutString
import Derived.ChangeOld
import Derived.Below
import Derived.Test.YtcpgdhffemecbaaZ1
import Derived.Test.YtcpgdhffemecbaaDrawOuter
import Derived.Test.YtcpgdhffemecbaaSpecOuter
import Derived.Test.YtcpgdhffemecbaaZ2
import Derived.Test.YtcpgdhffemecbaaEachF
import Derived.Test.YtcpgdhffemecbaaLaw3
namespace Go.Proofs.Ytcpgdhffemecbaa.fnOuter
open Go.ChangeShapes Go.WideShapes Go.ChangeAt Go.RowKit
open Go.ChangeMaps (open_string shut_string)
set_option linter.unusedVariables false
set_option linter.unusedSimpArgs false
set_option linter.unusedVariables false

theorem own : ownKnob Try.prog.godebug = none := by kernel_rfl
theorem laidOut : laidOutB Try.prog = true := by kernel_rfl

/-! ### STEP 1: THE WALK: the Go text returns true, AND WRITES NOTHING THAT WAS THERE: 'Below w.heap.size w w'' (Derived/Below.lean: '.refl', '.alloc', '.drew', '.setCell' at a new block, '.trans'). Open each 'IsRow' by 'rcases' AHEAD of 'go_enter'; part every test ahead of the walk. -/
set_option maxRecDepth 20000 in
set_option maxHeartbeats 8000000 in
theorem walk (a0 : Option Addr) (len0 cap0 : Nat) (z0 : List Int) (w : World) (w0 : IsRow .u8 w a0 len0 cap0 z0) :
    Calls Try.prog 4 #[.slice a0 len0 cap0] w fun e w' => e = .returned (.bool true) ∧ Below w.heap.size w w' := by
  have HS : Hid (Src w.heap.size w a0 len0) := src_of_row w0
  clear w0
  by_cases hbig : (1048576 : Int) < (len0 : Int)
  · go_enter Try.func4, Try.ntmps4
    go_wp2_with (go_at_call 7; refine (big_laws _ _ _ _).mono ?_; rintro e w' ⟨rfl, hw⟩; subst w')
    go_ret
    exact ⟨rfl, Below.refl _ _⟩
  have hb20 : len0 ≤ 1048576 := by omega
  go_enter Try.func4, Try.ntmps4
  go_wp2_with (go_at_call 7; refine (big_laws _ _ _ _).mono ?_; rintro e w' ⟨rfl, hw⟩; subst w')
  refine (drawOuter_spec HS.out hb20).mono ?_
  rintro r w1 ⟨sg, v1, v2, s, d, t, f, rfl, ha, hc0, ⟨hls, hld, hlt, hlf⟩, hb⟩
  obtain ⟨a1, c1, b1, e1, rfl, _, _, _, _⟩ := ha.arrI
  obtain ⟨a2, c2, b2, e2, rfl, _, _, _, _⟩ := hc0.arrI
  have N_1 : Hid (Arr w.heap.size w1.heap.size w1 (.agg #[.slice a1 s.length c1, .slice b1 d.length e1]) s d) := ha
  have M_1 : Hid (Arr w.heap.size w1.heap.size w1 (.agg #[.slice a2 t.length c2, .slice b2 f.length e2]) t f) := hc0
  have Ls : Hid (s.length ≤ 1048576) := by show _ ≤ _; omega
  have Ld : Hid (d.length ≤ 1048576) := by show _ ≤ _; omega
  have Lt : Hid (t.length ≤ 1048576) := by show _ ≤ _; omega
  have Lf : Hid (f.length ≤ 1048576) := by show _ ≤ _; omega
  have HT1 : Hid (Below w.heap.size w w1) := hb
  have SZ1 : Hid (w.heap.size ≤ w1.heap.size) := hb.size
  clear hb ha hc0 hls hld hlt hlf
  obtain ⟨C, hC⟩ : ∃ y, y = (outerR sg s d t f).1 := ⟨_, rfl⟩
  obtain ⟨S, hS⟩ : ∃ y, y = (outerR sg s d t f).2.1 := ⟨_, rfl⟩
  obtain ⟨D, hD⟩ : ∃ y, y = (outerR sg s d t f).2.2 := ⟨_, rfl⟩
  obtain ⟨C2, hC2⟩ : ∃ y, y = (outerR sg t f s d).1 := ⟨_, rfl⟩
  obtain ⟨S2, hS2⟩ : ∃ y, y = (outerR sg t f s d).2.1 := ⟨_, rfl⟩
  obtain ⟨D2, hD2⟩ : ∃ y, y = (outerR sg t f s d).2.2 := ⟨_, rfl⟩
  obtain ⟨C3, hC3⟩ : ∃ y, y = (flipR S D).1 := ⟨_, rfl⟩
  obtain ⟨S3, hS3⟩ : ∃ y, y = (flipR S D).2.1 := ⟨_, rfl⟩
  obtain ⟨D3, hD3⟩ : ∃ y, y = (flipR S D).2.2 := ⟨_, rfl⟩
  have LA : Hid (S.length ≤ 1048576 ∧ D.length ≤ 1048576) := by show _ ∧ _; rw [hS, hD]; exact mkR_len (fun h => (outer_len h).1) (fun h => (outer_len h).2)
  have LB : Hid (S2.length ≤ 1048576 ∧ D2.length ≤ 1048576) := by show _ ∧ _; rw [hS2, hD2]; exact mkR_len (fun h => (outer_len h).1) (fun h => (outer_len h).2)
  have EI : Hid (∀ (W : World) (u1 : Value) (_ : ArrI W u1 s d) (u2 : Value) (_ : ArrI W u2 t f), Calls Try.prog 17 #[.int .i64 sg, u1, u2] W fun e w' => ∃ v, e = .returned (.tuple #[v, .int .i64 C]) ∧ Arr W.heap.size w'.heap.size w' v S D ∧ Below W.heap.size W w') := by
    intro W u1 h1 u2 h2
    rw [hC, hS, hD]
    exact outer_impl h1 h2 Ls.out Ld.out Lt.out Lf.out
  have ES : Hid (∀ (W : World) (u1 : Value) (_ : ArrI W u1 s d) (u2 : Value) (_ : ArrI W u2 t f), Calls Try.prog 18 #[.int .i64 sg, u1, u2] W fun e w' => ∃ v, e = .returned (.tuple #[v, .int .i64 C]) ∧ Arr W.heap.size w'.heap.size w' v S D ∧ Below W.heap.size W w') := by
    intro W u1 h1 u2 h2
    rw [hC, hS, hD]
    exact outer_spec h1 h2 Ls.out Ld.out Lt.out Lf.out
  have E2 : Hid (∀ (W : World) (u1 : Value) (_ : ArrI W u1 t f) (u2 : Value) (_ : ArrI W u2 s d), Calls Try.prog 17 #[.int .i64 sg, u1, u2] W fun e w' => ∃ v, e = .returned (.tuple #[v, .int .i64 C2]) ∧ Arr W.heap.size w'.heap.size w' v S2 D2 ∧ Below W.heap.size W w') := by
    intro W u1 h1 u2 h2
    rw [hC2, hS2, hD2]
    exact outer_impl h1 h2 Lt.out Lf.out Ls.out Ld.out
  have E3 : Hid (∀ (W : World) (u0 : Value) (_ : ArrI W u0 S D), Calls Try.prog 21 #[u0] W fun e w' => ∃ v, e = .returned (.tuple #[v, .int .i64 C3]) ∧ Arr W.heap.size w'.heap.size w' v S3 D3 ∧ Below W.heap.size W w') := by
    intro W u0 h0
    rw [hC3, hS3, hD3]
    exact flip_impl h0 LA.out.1 LA.out.2
  have hCC : (outerR sg s d t f).1 = outerC sg s d t f := mkR_code _ _ _
  have FG : Hid (C = 0 → arrOk S D = true ∧ D.length = d.length * f.length ∧ d.length ≤ 300 ∧ f.length ≤ 300 ∧ ∀ i k, i < d.length → k < f.length → (twoV sg (d.getD i 0) (f.getD k 0)).2 = 0 ∧ (twoV sg (d.getD i 0) (f.getD k 0)).1 = D.getD (i * f.length + k) 0) := by
    intro h
    rw [hC, hCC] at h
    obtain ⟨⟨q1, q2, q3⟩, q4, q5, q6⟩ := outer_code h
    have e : outerR sg s d t f = (0, s ++ t, outD sg d f d.length) := by unfold outerR; rw [h]; rfl
    rw [hS, hD, e]
    exact ⟨outer_ok h, outD_len _ _ _ _, arrOk_len q1, arrOk_len q2, fun i k hi hk => ⟨out_zero q6 hi hk, (out_at _ hi hk).symm⟩⟩
  have FH : Hid (C = 0 → s.length = 1 → t.length = 1 → sidesB sg = true → C2 = 0 ∧ C3 = 0 ∧ S2 = S3 ∧ D2 = D3) := by
    intro h l1 l2 hsd
    rw [hC, hCC] at h
    have e : outerR sg s d t f = (0, s ++ t, outD sg d f d.length) := by unfold outerR; rw [h]; rfl
    match s, l1, t, l2 with
    | [m], _, [n], _ =>
      obtain ⟨q1, q2⟩ := outer_flip h hsd
      rw [hC3, hS3, hD3, hC2, hS2, hD2, hS, hD, e, q1]
      show _ ∧ (flipR [m, n] _).1 = 0 ∧ _ = (flipR [m, n] _).2.1 ∧ _ = (flipR [m, n] _).2.2
      rw [q2]
      exact ⟨rfl, rfl, rfl, rfl⟩
  have FB : Hid (C ≠ 0 → D.length = 0) := by
    intro h
    rw [hC, hCC] at h
    rw [hD]
    unfold outerR
    rw [mkR_bad h]; rfl
  have AK : Hid (∀ (W : World) (u : Value), arrOk S D = true → ArrI W u S D → Calls Try.prog 20 #[u] W fun e w' => e = .returned (.bool true) ∧ Below W.heap.size W w') := fun W u q h => by
    have := arrOk_impl h LA.out.2
    rw [q] at this
    exact this
  have SA : Hid (∀ (W : World) (u v : Value), S2 = S3 → D2 = D3 → ArrI W u S2 D2 → ArrI W v S3 D3 → Calls Try.prog 11 #[u, v] W fun e w' => e = .returned (.bool true) ∧ Below W.heap.size W w') := fun W u v q1 q2 h k => by
    have q := same_arr h k LB.out.1 LB.out.2
    rw [q1, q2] at q
    simpa [q1, q2] using q
  have hneC : (C != C) = false := by simp
  clear hC hS hD hC2 hS2 hD2 hC3 hS3 hD3 hCC
  go_wp2_with fail
  refine (EI.out _ _ ((N_1.out.arrI).keep (bAlloc (bAlloc (Below.refl _ _) _) _)) _ ((M_1.out.arrI).keep (bAlloc (bAlloc (Below.refl _ _) _) _))).mono ?_
  rintro r w2 ⟨vG, rfl, ha, hb⟩
  obtain ⟨aG, cG, bG, eG, rfl, _, _, _, _⟩ := ha.arrI
  have G_2 : Hid (Arr (w1.heap.size + 2) w2.heap.size w2 (.agg #[.slice aG S.length cG, .slice bG D.length eG]) S D) := ha.mono (by first | exact Nat.le_refl _ | simp | (simp; omega)) (Nat.le_refl _)
  clear ha
  have HB2 : Hid (Below w1.heap.size w1 w2) := bTrans (bAlloc (bAlloc (Below.refl _ _) _) _) hb
  have HT2 : Hid (Below w.heap.size w w2) := bTrans HT1.out HB2.out
  have SZ2 : Hid (w1.heap.size ≤ w2.heap.size) := HB2.out.size
  have N_2 : Hid (Arr w.heap.size w1.heap.size w2 (.agg #[.slice a1 s.length c1, .slice b1 d.length e1]) s d) := N_1.out.keep HB2.out
  have M_2 : Hid (Arr w.heap.size w1.heap.size w2 (.agg #[.slice a2 t.length c2, .slice b2 f.length e2]) t f) := M_1.out.keep HB2.out
  have QN_2 : Hid (Box w2 w1.heap.size (.slice a1 s.length c1) (.slice b1 d.length e1) 26) := ((box_new w1 _ _ _).keep (bAlloc (Below.refl _ _) _)).keep hb
  have LTQN : Hid (w1.heap.size < w2.heap.size) := QN_2.out.lt
  have QM_2 : Hid (Box w2 (w1.heap.size + 1) (.slice a2 t.length c2) (.slice b2 f.length e2) 26) := (box_new2 w1 _ _ _ _).keep hb
  have LTQM : Hid ((w1.heap.size + 1) < w2.heap.size) := QM_2.out.lt
  clear N_1 M_1 hb
  have QNc0 := QN_2.out.c0
  have QNc1 := QN_2.out.c1
  have QNd0 : ∀ o : Obj, (w2.alloc o).cell? ⟨w1.heap.size, 0, none⟩ = some (.slice a1 s.length c1) := fun o => (QN_2.out.keep (bAlloc (Below.refl _ _) o)).c0
  have QNd1 : ∀ o : Obj, (w2.alloc o).cell? ⟨w1.heap.size, 1, none⟩ = some (.slice b1 d.length e1) := fun o => (QN_2.out.keep (bAlloc (Below.refl _ _) o)).c1
  have QMc0 := QM_2.out.c0
  have QMc1 := QM_2.out.c1
  have QMd0 : ∀ o : Obj, (w2.alloc o).cell? ⟨(w1.heap.size + 1), 0, none⟩ = some (.slice a2 t.length c2) := fun o => (QM_2.out.keep (bAlloc (Below.refl _ _) o)).c0
  have QMd1 : ∀ o : Obj, (w2.alloc o).cell? ⟨(w1.heap.size + 1), 1, none⟩ = some (.slice b2 f.length e2) := fun o => (QM_2.out.keep (bAlloc (Below.refl _ _) o)).c1
  go_wp2_with fail
  refine (ES.out _ _ ((N_2.out.arrI).keep (bAlloc (Below.refl _ _) _)) _ ((M_2.out.arrI).keep (bAlloc (Below.refl _ _) _))).mono ?_
  rintro r w3 ⟨vW, rfl, ha, hb⟩
  obtain ⟨aW, cW, bW, eW, rfl, _, _, _, _⟩ := ha.arrI
  have W_3 : Hid (Arr (w2.heap.size + 1) w3.heap.size w3 (.agg #[.slice aW S.length cW, .slice bW D.length eW]) S D) := ha.mono (by first | exact Nat.le_refl _ | simp | (simp; omega)) (Nat.le_refl _)
  clear ha
  have HB3 : Hid (Below w2.heap.size w2 w3) := bTrans (bAlloc (Below.refl _ _) _) hb
  have HT3 : Hid (Below w.heap.size w w3) := bTrans HT2.out HB3.out
  have SZ3 : Hid (w2.heap.size ≤ w3.heap.size) := HB3.out.size
  have QN_3 : Hid (Box w3 w1.heap.size (.slice a1 s.length c1) (.slice b1 d.length e1) 26) := QN_2.out.keep HB3.out
  have QM_3 : Hid (Box w3 (w1.heap.size + 1) (.slice a2 t.length c2) (.slice b2 f.length e2) 26) := QM_2.out.keep HB3.out
  have N_3 : Hid (Arr w.heap.size w1.heap.size w3 (.agg #[.slice a1 s.length c1, .slice b1 d.length e1]) s d) := N_2.out.keep HB3.out
  have M_3 : Hid (Arr w.heap.size w1.heap.size w3 (.agg #[.slice a2 t.length c2, .slice b2 f.length e2]) t f) := M_2.out.keep HB3.out
  have G_3 : Hid (Arr (w1.heap.size + 2) w2.heap.size w3 (.agg #[.slice aG S.length cG, .slice bG D.length eG]) S D) := G_2.out.keep HB3.out
  have QG_3 : Hid (Box w3 w2.heap.size (.slice aG S.length cG) (.slice bG D.length eG) 26) := (box_new w2 _ _ _).keep hb
  have LTQG : Hid (w2.heap.size < w3.heap.size) := QG_3.out.lt
  clear QN_2 QM_2 N_2 M_2 G_2 QNc0 QNc1 QNd0 QNd1 QMc0 QMc1 QMd0 QMd1 hb
  have QNc0 := QN_3.out.c0
  have QNc1 := QN_3.out.c1
  have QNd0 : ∀ o : Obj, (w3.alloc o).cell? ⟨w1.heap.size, 0, none⟩ = some (.slice a1 s.length c1) := fun o => (QN_3.out.keep (bAlloc (Below.refl _ _) o)).c0
  have QNd1 : ∀ o : Obj, (w3.alloc o).cell? ⟨w1.heap.size, 1, none⟩ = some (.slice b1 d.length e1) := fun o => (QN_3.out.keep (bAlloc (Below.refl _ _) o)).c1
  have QMc0 := QM_3.out.c0
  have QMc1 := QM_3.out.c1
  have QMd0 : ∀ o : Obj, (w3.alloc o).cell? ⟨(w1.heap.size + 1), 0, none⟩ = some (.slice a2 t.length c2) := fun o => (QM_3.out.keep (bAlloc (Below.refl _ _) o)).c0
  have QMd1 : ∀ o : Obj, (w3.alloc o).cell? ⟨(w1.heap.size + 1), 1, none⟩ = some (.slice b2 f.length e2) := fun o => (QM_3.out.keep (bAlloc (Below.refl _ _) o)).c1
  have QGc0 := QG_3.out.c0
  have QGc1 := QG_3.out.c1
  have QGd0 : ∀ o : Obj, (w3.alloc o).cell? ⟨w2.heap.size, 0, none⟩ = some (.slice aG S.length cG) := fun o => (QG_3.out.keep (bAlloc (Below.refl _ _) o)).c0
  have QGd1 : ∀ o : Obj, (w3.alloc o).cell? ⟨w2.heap.size, 1, none⟩ = some (.slice bG D.length eG) := fun o => (QG_3.out.keep (bAlloc (Below.refl _ _) o)).c1
  by_cases hc : C = 0
  · obtain ⟨ho, hDl, hd3, hf3, hij⟩ := FG.out hc
    have FH2 : Hid (s.length = 1 → t.length = 1 → sidesB sg = true → C2 = 0 ∧ C3 = 0 ∧ S2 = S3 ∧ D2 = D3) := FH.out hc
    subst hc
    have HO : Hid (arrOk S D = true) := ho
    have HIJ : Hid (∀ i k, i < d.length → k < f.length → (twoV sg (d.getD i 0) (f.getD k 0)).2 = 0 ∧ (twoV sg (d.getD i 0) (f.getD k 0)).1 = D.getD (i * f.length + k) 0) := hij
    have HDL : Hid (D.length = d.length * f.length) := hDl
    clear ho hij hDl FG FB FH
    go_wp2_with fail
    generalize hwz : w3.alloc (.cells #[.slice aW S.length cW, .slice bW D.length eW] 26) = wz
    have BZ : Hid (Below w3.heap.size w3 wz) := by rw [← hwz]; exact bAlloc (Below.refl _ _) _
    have ZN : Hid (ArrI wz (.agg #[.slice a1 s.length c1, .slice b1 d.length e1]) s d) := N_3.out.arrI.keep BZ.out
    have ZM : Hid (ArrI wz (.agg #[.slice a2 t.length c2, .slice b2 f.length e2]) t f) := M_3.out.arrI.keep BZ.out
    have ZG : Hid (ArrI wz (.agg #[.slice aG S.length cG, .slice bG D.length eG]) S D) := G_3.out.arrI.keep BZ.out
    have QNz : Hid (Box wz w1.heap.size (.slice a1 s.length c1) (.slice b1 d.length e1) 26) := QN_3.out.keep BZ.out
    have QMz : Hid (Box wz (w1.heap.size + 1) (.slice a2 t.length c2) (.slice b2 f.length e2) 26) := QM_3.out.keep BZ.out
    have QGz : Hid (Box wz w2.heap.size (.slice aG S.length cG) (.slice bG D.length eG) 26) := QG_3.out.keep BZ.out
    have HTz : Hid (Below w.heap.size w wz) := bTrans HT3.out BZ.out
    clear hwz BZ QNc0 QNc1 QNd0 QNd1 QMc0 QMc1 QMd0 QMd1 QGc0 QGc1 QGd0 QGd1
    go_loopw [10] (fun i w' => ∃ k : Nat, k ≤ d.length ∧ i = .int .i64 (k : Int) ∧ Below wz.heap.size wz w') (fun i _ => d.length - (intOf i).toNat)
    case atStart => exact ⟨0, by omega, rfl, Below.refl _ _⟩
    case round =>
      obtain ⟨k, hk, rfl, hb⟩ := hrel
      have HC : Hid (Below wz.heap.size wz wr) := hb
      have QNr : Hid (Box wr w1.heap.size (.slice a1 s.length c1) (.slice b1 d.length e1) 26) := QNz.out.keep hb
      have QMr : Hid (Box wr (w1.heap.size + 1) (.slice a2 t.length c2) (.slice b2 f.length e2) 26) := QMz.out.keep hb
      clear hb
      have n1 := QNr.out.c1
      have n2 := QMr.out.c1
      by_cases hlt : (k : Int) < (d.length : Int)
      · go_wp2
        go_loopw [11] (fun j w' => ∃ m : Nat, m ≤ f.length ∧ j = .int .i64 (m : Int) ∧ Below wz.heap.size wz w') (fun j _ => f.length - (intOf j).toNat)
        case atStart => exact ⟨0, by omega, rfl, HC.out⟩
        case round =>
          obtain ⟨m, hm, rfl, hb⟩ := hrel
          have HCI : Hid (Below wz.heap.size wz wr) := hb
          have PNr : Hid (Box wr w1.heap.size (.slice a1 s.length c1) (.slice b1 d.length e1) 26) := QNz.out.keep hb
          have PMr : Hid (Box wr (w1.heap.size + 1) (.slice a2 t.length c2) (.slice b2 f.length e2) 26) := QMz.out.keep hb
          have PGr : Hid (Box wr w2.heap.size (.slice aG S.length cG) (.slice bG D.length eG) 26) := QGz.out.keep hb
          clear hb n1 n2
          have m1 := PNr.out.c1
          have m2 := PMr.out.c1
          by_cases hlm : (m : Int) < (f.length : Int)
          · obtain ⟨_, _, _, _, ev, _, i1, _, _⟩ := ZN.out.keep HCI.out
            cases ev
            obtain ⟨_, _, _, _, ev, _, i2, _, _⟩ := ZM.out.keep HCI.out
            cases ev
            obtain ⟨_, _, _, _, ev, _, i3, _, _⟩ := ZG.out.keep HCI.out
            cases ev
            obtain ⟨P, hP⟩ : ∃ P, P = k * f.length := ⟨_, rfl⟩
            have hPb : P + f.length ≤ D.length := by
              have q : (k + 1) * f.length ≤ d.length * f.length := Nat.mul_le_mul_right _ (by omega)
              rw [Nat.succ_mul] at q
              have := HDL.out
              omega
            have hD9 : D.length ≤ 90000 := by
              have q : d.length * f.length ≤ 300 * 300 := Nat.mul_le_mul hd3 hf3
              have := HDL.out
              omega
            obtain ⟨t1, t2⟩ := HIJ.out k m (by omega) (by omega)
            rw [← hP] at t2
            obtain ⟨p1, o1, rfl, hp1, u1⟩ := i1.at (k := k) (by omega)
            obtain ⟨p2, o2, rfl, hp2, u2⟩ := i2.at (k := m) (by omega)
            obtain ⟨p3, o3, rfl, hp3, u3⟩ := i3.at (k := P + m) (by omega)
            have ePi : (k : Int) * (f.length : Int) = (P : Int) := by rw [hP]; simp
            have TW : Hid (∀ W, Calls Try.prog 19 #[.int .i64 sg, .int .i64 (d.getD k 0), .int .i64 (f.getD m 0)] W fun e w' => e = .returned (.tuple #[.int .i64 (D.getD (P + m) 0), .int .i64 0]) ∧ Below W.heap.size W w') := fun W => by
              have q := two_impl sg (d.getD k 0) (f.getD m 0) W
              rw [t1, t2] at q
              exact q
            generalize d.getD k 0 = x at *
            generalize f.getD m 0 = y at *
            generalize D.getD (P + m) 0 = z at *
            have hPm : (P : Int) + (m : Int) < (D.length : Int) := by omega
            have hPs : (P : Int) ≤ 90000 := by omega
            have u3' : wr.cell? ⟨p3, o3 + (P + m), none⟩ = some (.int .i64 z) := u3
            have HU : Hid (p3 < wr.heap.size) := hp3
            clear t1 t2 i1 i2 i3 hP
            go_wp2_with fail
            go_region_held3 (fun w' => w'.cell? ⟨w1.heap.size, 1, none⟩ = some (.slice (some ⟨p1, o1, none⟩) d.length e1) ∧ w'.cell? ⟨(w1.heap.size + 1), 1, none⟩ = some (.slice (some ⟨p2, o2, none⟩) f.length e2) ∧ w'.cell? ⟨p1, o1 + k, none⟩ = some (.int .i64 x) ∧ w'.cell? ⟨p2, o2 + m, none⟩ = some (.int .i64 y))
              (first | with_reducible exact ⟨v1, v2, v3, v4⟩ | exact ⟨m1, m2, u1, u2⟩)
              ((go_at_call 19; refine (TW.out _).mono ?_; rintro r wn ⟨rfl, hb⟩; have BN : Hid (Below wr.heap.size wr wn) := bTrans ((Below.refl wr.heap.size wr).drew) hb; have v1 := (PNr.out.keep BN.out).c1; have v2 := (PMr.out.keep BN.out).c1; have v3 := (BN.out.cell (p := ⟨p1, o1 + k, none⟩) hp1).trans u1; have v4 := (BN.out.cell (p := ⟨p2, o2 + m, none⟩) hp2).trans u2; have v5 := (PGr.out.keep BN.out).c1; have v6 := (BN.out.cell (p := ⟨p3, o3 + (P + m), none⟩) HU.out).trans u3'; clear hb))
            have hzz : (z != z) = false := by simp
            go_wp2
            go_roundw
            case rel => exact ⟨m + 1, by omega, by go_num, bTrans HCI.out BN.out⟩
            case measure => simp [intOf]; omega
          · go_wp2
            go_roundw
            case rel => exact ⟨k + 1, by omega, by go_num, HCI.out⟩
            case measure => simp [intOf]; omega
      · obtain rfl : k = d.length := by omega
        have QGr : Hid (Box wr w2.heap.size (.slice aG S.length cG) (.slice bG D.length eG) 26) := QGz.out.keep HC.out
        have n3 := QNr.out.c0
        have n4 := QMr.out.c0
        have n5 := QGr.out.c0
        have n6 := QGr.out.c1
        have AN : Hid (ArrI wr (.agg #[.slice a1 s.length c1, .slice b1 d.length e1]) s d) := ZN.out.keep HC.out
        have AM : Hid (ArrI wr (.agg #[.slice a2 t.length c2, .slice b2 f.length e2]) t f) := ZM.out.keep HC.out
        have AG : Hid (ArrI wr (.agg #[.slice aG S.length cG, .slice bG D.length eG]) S D) := ZG.out.keep HC.out
        have HTr : Hid (Below w.heap.size w wr) := bTrans HTz.out HC.out
        by_cases hs1 : s.length = 1
        · have hs2 : ((s.length : Int) != 1) = false := by rw [hs1]; rfl
          by_cases ht1 : t.length = 1
          · have ht2 : ((t.length : Int) != 1) = false := by rw [ht1]; rfl
            by_cases hsd : sidesB sg = true
            · obtain ⟨rfl, rfl, qS, qD⟩ := FH2.out hs1 ht1 hsd
              have HSS : Hid (S2 = S3) := qS
              have HDD : Hid (D2 = D3) := qD
              have hsx : sg = 43 ∨ sg = 42 ∨ sg = 38 ∨ sg = 94 ∨ sg = 61 := by
                unfold sidesB at hsd; simp at hsd; omega
              clear hs1 ht1 hsd qS qD hd3 hf3 hlt hk
              have K2 : Hid (∀ W, Below wr.heap.size wr W → Calls Try.prog 17 #[.int .i64 sg, .agg #[.slice a2 t.length c2, .slice b2 f.length e2], .agg #[.slice a1 s.length c1, .slice b1 d.length e1]] W fun e w' => ∃ v, e = .returned (.tuple #[v, .int .i64 0]) ∧ Arr W.heap.size w'.heap.size w' v S2 D2 ∧ Below W.heap.size W w') := fun W hh => E2.out W _ (AM.out.keep hh) _ (AN.out.keep hh)
              rcases hsx with rfl | rfl | rfl | rfl | rfl
              all_goals
                go_wp2_with fail
                refine (K2.out _ (Below.refl _ _)).mono ?_
                rintro r wx ⟨vx, rfl, ha, hb⟩
                obtain ⟨xa, xc, ya, yc, rfl, _, _, _, _⟩ := ha.arrI
                have BX : Hid (Below wr.heap.size wr wx) := hb
                have AX : Hid (ArrI wx (.agg #[.slice xa S2.length xc, .slice ya D2.length yc]) S2 D2) := ha.arrI
                clear ha hb
                have r5 : ∀ o : Obj, (wx.alloc o).cell? ⟨w2.heap.size, 0, none⟩ = some (.slice aG S.length cG) := fun o => (QGr.out.keep (bAlloc BX.out o)).c0
                have r6 : ∀ o : Obj, (wx.alloc o).cell? ⟨w2.heap.size, 1, none⟩ = some (.slice bG D.length eG) := fun o => (QGr.out.keep (bAlloc BX.out o)).c1
                go_wp2_with fail
                refine (E3.out _ _ (AG.out.keep (bAlloc BX.out _))).mono ?_
                rintro r wy ⟨vy, rfl, ha, hb⟩
                obtain ⟨ua, uc, va, vc, rfl, _, _, _, _⟩ := ha.arrI
                have hbx : Below wx.heap.size wx wy := bTrans (bAlloc (Below.refl _ _) _) hb
                have BY : Hid (Below wr.heap.size wr wy) := bTrans BX.out hbx
                have AX2 : Hid (ArrI wy (.agg #[.slice xa S2.length xc, .slice ya D2.length yc]) S2 D2) := AX.out.keep hbx
                have AY : Hid (ArrI wy (.agg #[.slice ua S3.length uc, .slice va D3.length vc]) S3 D3) := ha.arrI
                have QX : Hid (Box wy wx.heap.size (.slice xa S2.length xc) (.slice ya D2.length yc) 26) := (box_new wx _ _ _).keep hb
                clear ha hb hbx r5 r6
                have q1 : ∀ o : Obj, (wy.alloc o).cell? ⟨wx.heap.size, 0, none⟩ = some (.slice xa S2.length xc) := fun o => (QX.out.keep (bAlloc (Below.refl _ _) o)).c0
                have q2 : ∀ o : Obj, (wy.alloc o).cell? ⟨wx.heap.size, 1, none⟩ = some (.slice ya D2.length yc) := fun o => (QX.out.keep (bAlloc (Below.refl _ _) o)).c1
                go_wp2_with fail
                refine (SA.out _ _ _ HSS.out HDD.out (AX2.out.keep (bAlloc (Below.refl _ _) _)) (AY.out.keep (bAlloc (Below.refl _ _) _))).mono ?_
                rintro r wv ⟨rfl, hb⟩
                have BV : Hid (Below wr.heap.size wr wv) := bTrans BY.out (bTrans (bAlloc (Below.refl _ _) _) hb)
                clear hb
                go_wp2
                go_ret
                exact ⟨rfl, bTrans HTr.out BV.out⟩
            · have hsx : (sg != 43) = true ∧ (sg != 42) = true ∧ (sg != 38) = true ∧ (sg != 94) = true ∧ (sg != 61) = true := by
                unfold sidesB at hsd; simp at hsd ⊢; omega
              obtain ⟨w43, w42, w38, w94, w61⟩ := hsx
              clear hs1 ht1 hsd
              go_wp2_with fail
              refine (AK.out _ _ HO.out AG.out).mono ?_
              rintro r wn ⟨rfl, hb⟩
              have CN : Hid (Below wr.heap.size wr wn) := hb
              clear hb
              go_wp2
              go_ret
              exact ⟨rfl, bTrans HTr.out CN.out⟩
          · have ht2 : ((t.length : Int) != 1) = true := by simp; omega
            clear hs1 ht1
            go_wp2_with fail
            refine (AK.out _ _ HO.out AG.out).mono ?_
            rintro r wn ⟨rfl, hb⟩
            have CN : Hid (Below wr.heap.size wr wn) := hb
            clear hb
            go_wp2
            go_ret
            exact ⟨rfl, bTrans HTr.out CN.out⟩
        · have hs2 : ((s.length : Int) != 1) = true := by simp; omega
          clear hs1
          go_wp2_with fail
          refine (AK.out _ _ HO.out AG.out).mono ?_
          rintro r wn ⟨rfl, hb⟩
          have CN : Hid (Below wr.heap.size wr wn) := hb
          clear hb
          go_wp2
          go_ret
          exact ⟨rfl, bTrans HTr.out CN.out⟩
  · have n0 : (C != 0) = true := by simpa using hc
    have hl : ((D.length : Int) == 0) = true := by rw [FB.out hc]; rfl
    have hl2 : D.length = 0 := FB.out hc
    clear FG FB FH
    go_wp2
    go_ret
    exact ⟨rfl, bTrans HT3.out (bAlloc (Below.refl _ _) _)⟩

/-! ### THE ROW's STEP: WRITTEN OUT: LEAVE IT -/
set_option maxRecDepth 100000 in
theorem lifted (os : Os) (started : os.Started) (H : Type) (enc : TypeId × Value → H) :
    ReturnsInHanded {} Try.checked os 4 .any (Rows.fnOuterSpec.pre6 enc Try.prog Try.f4 Rows.fnOuterRow.domain false) (Rows.fnOuterSpec.post enc Try.prog Try.f4 false true false false) := by
  refine returnsInHanded_of_change (C := Try.checked) own started (by kernel_rfl) Try.func4
    (ChangeSpec.witness6 (enc := enc) (C := Try.checked) false ⟨#[], #[.slice none 0 0], []⟩ 8 (by kernel_rfl) (by kernel_rfl) (by kernel_rfl) (by kernel_rfl)) ?_
  intro W base args ds gs before hval0 hW hcnd _
  have hval : ∀ (j : Nat) t v, Try.f4.params[j]? = some t → args[j]? = some v → Value.okWide Try.prog W .any base t v := hval0
  have hW' := hW
  obtain ⟨p, q, hA0, hV, rfl, hfz, hnd⟩ := hW
  have hA : DataW.TrodAll enc Try.prog W 0 (fun _ => true) true Try.f4.params.toList args.toList ds p := hA0
  rw [Try.params4] at hA hval
  obtain ⟨v0, vs0, d0, ds0, p0, q0, hargs, rfl, rfl, h0, r0⟩ := trodAll_cons hA
  obtain ⟨rfl, rfl, rfl⟩ := trodAll_nil r0
  obtain rfl : args = #[v0] := by cases args; simp_all
  obtain ⟨rfl, rfl⟩ := trodVars_none hV
  obtain ⟨a0, len0, cap0, rfl⟩ := okWide_slice Try.underlying22 (hval 0 22 v0 rfl rfl)
  have k0 := h0
  have lt0 : ∀ x ∈ p0, x.block < W.heap.size := by obtain ⟨m, hm⟩ := k0; exact DataW.trod_lt m _ _ _ hm
  obtain ⟨z0, w0⟩ : ∃ zs, IsRow .u8 W a0 len0 cap0 zs := by
    obtain ⟨fuel, hf⟩ := h0
    rcases open_ints Try.underlying22 Try.underlying5 (by kernel_rfl) hf with ⟨hcs, _⟩ | ⟨x, l, c, zs, hcs, _, hl, hm, hz, _, hcell, hwz⟩
    · simp [Value.cells] at hcs
      obtain ⟨rfl, rfl, rfl⟩ := hcs
      exact ⟨[], .inl ⟨rfl, rfl, rfl, rfl⟩⟩
    · simp [Value.cells] at hcs
      obtain ⟨rfl, rfl, rfl⟩ := hcs
      exact ⟨zs, .inr ⟨_, rfl, hl, hm, by simpa using hz, hcell, hwz⟩⟩
  clear hA0 hval0
  refine (walk a0 len0 cap0 z0 W w0).mono fun e W' ⟨he, bel⟩ => ?_
  subst he
  exact ⟨_, rfl, _, _, _, [], _, [], hW', trodAll_mk1 (shut_bool Try.underlying4 _), (trodAll_cons_mk (Below.trod laidOut (by kernel_rfl) (of_decide_eq_true (by kernel_rfl)) k0 bel lt0) trodAll_mk0), rfl, bel.frame _, fun h => by cases h⟩

theorem over : Rows.fnOuterRow.holds Try.pinned (OpenSpec.ofChange Rows.fnOuterSpec) :=
  OpenClaim.holds_of_wide 4 Try.f4 rfl rfl rfl rfl rfl rfl rfl ⟨rfl, rfl, rfl, rfl, rfl⟩ rfl rfl rfl rfl rfl (by kernel_rfl) Try.func4 (by kernel_rfl)
    (of_decide_eq_true (by kernel_rfl)) (by unfold Func.isWrapper; first | (rw [if_pos (by decide +kernel)]; kernel_rfl) | (rw [if_neg (by decide +kernel)]; exact ⟨rfl, rfl⟩))
    (fun os started H enc _ => lifted os started H enc)

/-- ████ THE STATEMENT ████ -/
theorem proved : Rows.FnOuterSaid := over
end Go.Proofs.Ytcpgdhffemecbaa.fnOuter
namespace Go.Proofs.Ytcpgdhffemecbaa
theorem fnOuter_holds : Rows.FnOuterSaid := fnOuter.proved
#print axioms fnOuter_holds
end Go.Proofs.Ytcpgdhffemecbaa
