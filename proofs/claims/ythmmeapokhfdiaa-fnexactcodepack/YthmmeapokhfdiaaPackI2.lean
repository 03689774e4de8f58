/-
  Walks: the program's CodePack.
-/
import Derived.Test.YthmmeapokhfdiaaPackI
import Derived.Test.YthmmeapokhfdiaaCodeI4
namespace Go.Proofs.Ythmmeapokhfdiaa
open Go.RowKit
set_option linter.unusedVariables false
set_option linter.unusedSimpArgs false
theorem NewB.own_lt {B : Nat} {w : World} {v : Value} {l : List Int} (h : NewB B w v l) : ∀ k, v.ownBlock = some k → k < w.heap.size := by
  obtain ⟨_, h2⟩ := h
  intro k hk
  rcases h2 with ⟨rfl, _⟩ | ⟨g, cap, cur, rfl, _, hg, _⟩
  · simp [Value.ownBlock] at hk
  · simp [Value.ownBlock] at hk
    subst hk
    exact (Array.getElem?_eq_some_iff.1 hg).1
/-- What CodePack answers. -/
def PackPost (w : World) (b : Bool) (P : List Int) (r : Ending) (w' : World) : Prop := ∃ a c, r = .returned (.tuple #[.slice a P.length c, .bool b]) ∧ NewB w.heap.size w' (.slice a P.length c) P ∧ Below w.heap.size w w'
theorem NewB.nil (B : Nat) (w : World) : NewB B w (.slice none 0 0) [] := ⟨rfl, .inl ⟨rfl, rfl⟩⟩
set_option maxRecDepth 20000 in
set_option maxHeartbeats 8000000 in
/-- The program's CodePack. -/
theorem codePack_impl {w : World} {v : Value} {n : Nat} {E : Nat → Nat → Int} {N : Nat → List Int} (h : InsI w v n E N) (hl : ∀ i, (N i).length ≤ 1048576) (hn : n ≤ 1048576) :
    Calls Try.prog 8 #[v] w fun r w' => PackPost w (codeB n E N) (if codeB n E N = true then packL n E N else []) r w' := by
  have H : Hid (InsI w v n E N) := h
  have CO : Hid (Calls Try.prog 21 #[v] w fun r w' => r = .returned (.bool (codeB n E N)) ∧ Below w.heap.size w w') := codeOk_impl h hl hn
  clear hl
  obtain ⟨a, c, rfl, _⟩ := h
  cases hc : codeB n E N
  · rw [hc] at CO
    rw [if_neg (by decide)]
    clear hc
    go_enter Try.func8, Try.ntmps8
    go_wp2_with fail
    refine CO.out.mono ?_
    rintro r w1 ⟨rfl, hb⟩
    have B1 : Hid (Below w.heap.size w w1) := hb
    clear hb
    go_wp2
    go_ret2
    exact ⟨none, 0, rfl, NewB.nil _ _, B1.out⟩
  · rw [if_pos rfl]
    have hp := codeB_iff.1 hc
    have n60 : n ≤ 60 := hp.2.1
    have HI : Hid (∀ i, i < n → insB (E i) (N i) = true) := hp.2.2.1
    have HN : Hid (∀ i, i < n → (N i).length ≤ 300) := fun i hi => (insB_len (hp.2.2.1 i hi)).1
    rw [hc] at CO
    clear hc hp
    have EP : Hid (packL n E N = (n : Int) :: packN E N n) := rfl
    generalize packL n E N = PL at *
    go_enter Try.func8, Try.ntmps8
    go_wp2_with fail
    refine CO.out.mono ?_
    rintro r w1 ⟨rfl, hb⟩
    have B1 : Hid (Below w.heap.size w w1) := hb
    clear hb CO
    go_wp2_with fail
    generalize hW : w1.alloc (.cells #[.int .u8 (n : Int)] 5) = W1
    have N1 : Hid (NewB w1.heap.size W1 (.slice (some ⟨w1.heap.size, 0, none⟩) 1 1) ((n : Int) :: packN E N 0)) := by rw [← hW]; exact newB_alloc w1 [(n : Int)] (Nat.le_refl _) (by simp)
    have BB1 : Hid (Below w1.heap.size w1 W1) := by rw [← hW]; exact one_below
    clear hW
    go_loopw [4, 16] (fun u i w' => ∃ (k : Nat) (a1 : Option Addr) (c1 : Nat), k ≤ n ∧ u = .slice a1 ((n : Int) :: packN E N k).length c1 ∧ i = .int .i64 (k : Int) ∧ NewB w1.heap.size w' (.slice a1 ((n : Int) :: packN E N k).length c1) ((n : Int) :: packN E N k) ∧ Below w1.heap.size w1 w') (fun _ i _ => n - (intOf i).toNat)
    case atStart => exact ⟨0, _, _, by omega, rfl, rfl, N1.out, BB1.out⟩
    case round =>
      obtain ⟨k, a1, c1, hk, rfl, rfl, hN, hb⟩ := hrel
      have NK : Hid (NewB w1.heap.size wr (.slice a1 ((n : Int) :: packN E N k).length c1) ((n : Int) :: packN E N k)) := hN
      have BK : Hid (Below w1.heap.size w1 wr) := hb
      clear hN hb N1 BB1
      by_cases hlt : (k : Int) < (n : Int)
      · have L : k < n := by omega
        obtain ⟨o, off, xa, xc, rfl, ho, ⟨p0, p1, p2, p3, p4, p5⟩, ar⟩ := (H.out.keep (bTrans B1.out BK.out)).at L
        obtain ⟨_, _, ev, _, hi0⟩ := ar
        cases ev
        have NW : Hid (∀ W, Below w1.heap.size w1 W → Ints W xa (N k)) := by
          obtain ⟨o', off', xa', xc', e', ho', ⟨_, _, _, _, _, c5'⟩, ar'⟩ := H.out.at L
          cases e'
          have ec := (bTrans B1.out BK.out).cell (p := ⟨o, off + k * 6 + 5, none⟩) ho'
          rw [p5, c5'] at ec
          simp only [Option.some.injEq, Value.slice.injEq] at ec
          obtain ⟨_, _, ev', _, hi'⟩ := ar'
          cases ev'
          rw [← ec.1] at hi'
          exact fun W hW => hi'.keep (bTrans B1.out hW)
        have OK : Hid (E k 0 = 1 → (N k).all ok = true) := (insB_len (HI.out k L)).2
        have L3 : (N k).length ≤ 300 := HN.out k L
        have LP : Hid (((n : Int) :: packN E N k).length ≤ 144421) := by
          have := packN_len (E := E) (fun i hi => HN.out i hi) (Nat.le_of_lt L)
          show _ ≤ _
          simp only [List.length_cons]
          omega
        have ES : Hid ((n : Int) :: packN E N (k + 1) = ((n : Int) :: packN E N k) ++ packI (E k) (N k)) := rfl
        have EI : Hid (packI (E k) (N k) = [E k 0 % 256, E k 1 % 256, E k 2 % 256, E k 3 % 256, E k 4 % 256] ++ if E k 0 = 1 then [((N k).length : Int) % 256, ((N k).length : Int) / 256 % 256] ++ numsBy (N k) else []) := rfl
        obtain ⟨F', hF'⟩ : ∃ F', F' = (n : Int) :: packN E N (k + 1) := ⟨_, rfl⟩
        have HF' : Hid (F' = (n : Int) :: packN E N (k + 1)) := hF'
        rw [← hF', EI.out] at ES
        clear hF' EI hi0 L ho
        generalize (n : Int) :: packN E N k = A at *
        generalize N k = nl at *
        generalize E k 0 = q0 at *
        generalize E k 1 = q1 at *
        generalize E k 2 = q2 at *
        generalize E k 3 = q3 at *
        generalize E k 4 = q4 at *
        have hnew := heap_alloc_new wr (.cells #[.int .i64 q0, .int .i64 q1, .int .i64 q2, .int .i64 q3, .int .i64 q4, .slice xa nl.length xc] 47)
        obtain ⟨Wa, hWa⟩ : ∃ Wa, Wa = wr.alloc (.cells #[.int .i64 q0, .int .i64 q1, .int .i64 q2, .int .i64 q3, .int .i64 q4, .slice xa nl.length xc] 47) := ⟨_, rfl⟩
        have SZ : Wa.heap.size = wr.heap.size + 1 := by rw [hWa]; simp
        have BWa : Hid (Below w1.heap.size w1 Wa) := by rw [hWa]; exact bAlloc BK.out _
        have NKa : NewB w1.heap.size Wa (.slice a1 A.length c1) A := by rw [hWa]; exact NK.out.keep one_below
        obtain ⟨a5, c5, w5, hr, h5, hg5⟩ := growBs [q0 % 256, q1 % 256, q2 % 256, q3 % 256, q4 % 256] NKa BWa.out.size (by have := LP.out; simp; omega)
        rw [show (A ++ [q0 % 256, q1 % 256, q2 % 256, q3 % 256, q4 % 256]).length = A.length + 5 by simp] at hr h5 hg5
        have R5 : Hid ((Builtin.append_ #[24, 24] 24 #[.slice a1 A.length c1, .slice (some ⟨wr.heap.size + 1, 0, none⟩) 5 5]).run Try.prog ((wr.alloc (.cells #[.int .i64 q0, .int .i64 q1, .int .i64 q2, .int .i64 q3, .int .i64 q4, .slice xa nl.length xc] 47)).alloc (.cells #[.int .u8 (q0 % 256), .int .u8 (q1 % 256), .int .u8 (q2 % 256), .int .u8 (q3 % 256), .int .u8 (q4 % 256)] 5)) = .ok (.slice a5 (A.length + 5) c5) w5) := by show _ = _; rw [← hWa, ← SZ]; simpa [bvals] using hr
        have BX : Hid (w5.heap[wr.heap.size]? = some (.cells #[.int .i64 q0, .int .i64 q1, .int .i64 q2, .int .i64 q3, .int .i64 q4, .slice xa nl.length xc] 47 (0, 0))) := by
          show _ = _
          rw [hg5.block wr.heap.size (by omega) (fun e => by have := NK.out.own_lt _ e.symm; omega), hWa]
          exact hnew
        have N5 : Hid (NewB w1.heap.size w5 (.slice a5 (A.length + 5) c5) (A ++ [q0 % 256, q1 % 256, q2 % 256, q3 % 256, q4 % 256])) := h5
        have O5 : Hid (∀ j, (Value.slice a5 (A.length + 5) c5).ownBlock = some j → j ≠ wr.heap.size) := fun j hj => by
          rcases hg5.own with e | ⟨o, e, ho⟩
          · have := NK.out.own_lt j (by rw [← e]; exact hj)
            omega
          · rw [e] at hj
            cases hj
            omega
        have B5 : Hid (Below w1.heap.size w1 w5) := BWa.out.trans (hg5.below NKa.row BWa.out.size)
        clear hr h5 hg5 hnew NKa hWa SZ BWa
        have x0 : w5.cell? ⟨wr.heap.size, 0, none⟩ = some (.int .i64 q0) := cell_at BX.out rfl
        have x5 : w5.cell? ⟨wr.heap.size, 5, none⟩ = some (.slice xa nl.length xc) := cell_at BX.out rfl
        by_cases h1 : q0 = 1
        · subst h1
          rw [if_pos rfl] at ES
          have OKN := OK.out rfl
          have HG : Hid (∀ (v' : Value) (W : World), Gr (.slice a5 (A.length + 5) c5) w5 v' W → W.cell? ⟨wr.heap.size, 5, none⟩ = some (.slice xa nl.length xc)) := fun v' W hg => by
            have e : W.heap[wr.heap.size]? = _ := (hg.block wr.heap.size (lt_of_heapA BX.out) (fun e => O5.out _ e.symm rfl)).trans BX.out
            exact cell_at e rfl
          obtain ⟨D, hD⟩ : ∃ D, D = A ++ [1 % 256, q1 % 256, q2 % 256, q3 % 256, q4 % 256] := ⟨_, rfl⟩
          have DL : D.length = A.length + 5 := by rw [hD]; simp
          rw [← hD] at N5
          have ES2 : Hid (F' = (D ++ [(nl.length : Int) % 256, (nl.length : Int) / 256 % 256]) ++ numsBy nl) := by show _ = _; rw [ES.out, hD]; simp
          have CW : Hid (Calls Try.prog 23 #[.slice a5 (A.length + 5) c5, .int .i64 (nl.length : Int)] w5.drew fun r w' => ∃ a' c', r = .returned (.slice a' (A.length + 5 + 2) c') ∧ NewB w1.heap.size w' (.slice a' (A.length + 5 + 2) c') (D ++ [(nl.length : Int) % 256, (nl.length : Int) / 256 % 256]) ∧ Gr (.slice a5 (A.length + 5) c5) w5.drew (.slice a' (A.length + 5 + 2) c') w') := by
            have := withCount_impl (w := w5.drew) (B := w1.heap.size) (a := a5) (c := c5) (l := D) (by rw [DL]; exact N5.out) B5.out.size (by have := LP.out; omega) nl.length (by omega)
            rw [DL] at this
            exact this
          have CN : Hid (∀ (a6 : Option Addr) (c6 : Nat) (w6 : World), Below w1.heap.size w1 w6 → NewB w1.heap.size w6 (.slice a6 (A.length + 5 + 2) c6) (D ++ [(nl.length : Int) % 256, (nl.length : Int) / 256 % 256]) → Calls Try.prog 22 #[.slice a6 (A.length + 5 + 2) c6, .slice xa nl.length xc] w6 fun r w' => ∃ a' c', r = .returned (.slice a' F'.length c') ∧ NewB w1.heap.size w' (.slice a' F'.length c') F' ∧ Gr (.slice a6 (A.length + 5 + 2) c6) w6 (.slice a' F'.length c') w') := fun a6 c6 w6 hb6 hn6 => by
            have LD : (D ++ [(nl.length : Int) % 256, (nl.length : Int) / 256 % 256]).length = A.length + 5 + 2 := by rw [List.length_append, DL]; rfl
            have := withNums_impl (w := w6) (B := w1.heap.size) (a := a6) (b := xa) (c := c6) (d := xc) (l := D ++ [(nl.length : Int) % 256, (nl.length : Int) / 256 % 256]) (m := nl) (by rw [LD]; exact hn6) (fun W hW => NW.out W (hb6.trans hW)) hb6.size (by rw [LD]; have := LP.out; omega) OKN
            rw [LD, ← ES2.out] at this
            exact this
          clear hD DL OKN
          go_wp2_with (at_builtin; refine wpList_append_ty rfl _ _ 24 24 rfl _ _ _ rfl rfl R5.out ?_)
          go_region_held3 (fun w' => w'.cell? ⟨wr.heap.size, 5, none⟩ = some (.slice xa nl.length xc))
            (first | exact HG.out _ _ GR7.out | exact HG.out _ _ GR6.out | exact HG.out _ _ (Gr.refl _ _).drew | exact x5)
            (first
              | (go_at_call 23; refine CW.out.mono ?_; rintro r w6 ⟨a6, c6, rfl, hn6, hg6⟩; have N6 : Hid (NewB w1.heap.size w6 (.slice a6 (A.length + 5 + 2) c6) (D ++ [(nl.length : Int) % 256, (nl.length : Int) / 256 % 256])) := hn6; have GR6 : Hid (Gr (.slice a5 (A.length + 5) c5) w5 (.slice a6 (A.length + 5 + 2) c6) w6) := ((Gr.refl _ w5).drew).trans hg6; clear hn6 hg6)
              | (go_at_call 22; refine (CN.out _ _ _ (B5.out.trans (GR6.out.below N5.out.row B5.out.size)) N6.out).mono ?_; rintro r w7 ⟨a7, c7, rfl, hn7, hg7⟩; have N7 : Hid (NewB w1.heap.size w7 (.slice a7 F'.length c7) F') := hn7; have GR7 : Hid (Gr (.slice a5 (A.length + 5) c5) w5 (.slice a7 F'.length c7) w7) := GR6.out.trans hg7; clear hn7 hg7))
          all_goals
            go_wp2
            go_roundw
            case rel => exact ⟨k + 1, a7, c7, by omega, by rw [← HF'.out], by go_num, by rw [← HF'.out]; exact N7.out, B5.out.trans (GR7.out.below N5.out.row B5.out.size)⟩
            case measure => simp [intOf]; omega
        · have b1 : (q0 == 1) = false := by simpa using h1
          rw [if_neg h1, List.append_nil] at ES
          clear h1
          go_wp2_with (at_builtin; refine wpList_append_ty rfl _ _ 24 24 rfl _ _ _ rfl rfl R5.out ?_)
          go_roundw
          case rel => exact ⟨k + 1, a5, c5, by omega, by rw [← HF'.out, ES.out]; simp, by go_num, by rw [← HF'.out, ES.out]; simpa using N5.out, B5.out⟩
          case measure => simp [intOf]; omega
      · obtain rfl : k = n := by omega
        have EQ : Hid ((k : Int) :: packN E N k = PL) := EP.out.symm
        rw [EQ.out] at NK ⊢
        go_wp2
        go_ret2
        exact ⟨_, _, rfl, NK.out.mono B1.out.size, bTrans B1.out BK.out⟩
end Go.Proofs.Ythmmeapokhfdiaa
