/-
  Walks: the specification's Outer.
-/
import Derived.Test.YtcpgdhffemecbaaSpecMake1
import Derived.Test.YtcpgdhffemecbaaSpecTwo
import Derived.Test.YtcpgdhffemecbaaSpecEach2
import Derived.Test.YtcpgdhffemecbaaOuterN
import Derived.Test.YtcpgdhffemecbaaOutB
import Derived.Deep.Cut
namespace Go.Proofs.Ytcpgdhffemecbaa
open Go.RowKit
set_option linter.unusedVariables false
set_option linter.unusedSimpArgs false
theorem four7 (w : World) (A B C D : Obj) :
    ((((w.alloc A).alloc B).alloc C).alloc D).heap[w.heap.size]? = some A ∧ ((((w.alloc A).alloc B).alloc C).alloc D).heap[w.heap.size + 1]? = some B ∧ ((((w.alloc A).alloc B).alloc C).alloc D).heap[w.heap.size + 1 + 1]? = some C ∧ ((((w.alloc A).alloc B).alloc C).alloc D).heap[w.heap.size + 1 + 1 + 1]? = some D := by
  have e1 := heap_alloc_new w A
  have e2 := heap_alloc_new (w.alloc A) B
  have e3 := heap_alloc_new ((w.alloc A).alloc B) C
  have e4 := heap_alloc_new (((w.alloc A).alloc B).alloc C) D
  simp only [World.size_alloc] at e2 e3 e4
  refine ⟨?_, ?_, ?_, e4⟩
  · rw [heap_alloc_old _ _ (by simp only [World.size_alloc]; omega), heap_alloc_old _ _ (by simp only [World.size_alloc]; omega), heap_alloc_old _ _ (by simp only [World.size_alloc]; omega)]; exact e1
  · rw [heap_alloc_old _ _ (by simp only [World.size_alloc]; omega), heap_alloc_old _ _ (by simp only [World.size_alloc]; omega)]; exact e2
  · rw [heap_alloc_old _ _ (by simp only [World.size_alloc]; omega)]; exact e3
set_option maxRecDepth 20000 in
set_option maxHeartbeats 40000000 in
/-- Outer. -/
theorem outer_spec {g : Int} {s d t e : List Int} {w : World} {v u : Value} (h : ArrI w v s d) (k : ArrI w u t e) (hs : s.length ≤ 1048576) (hd : d.length ≤ 1048576) (ht : t.length ≤ 1048576) (he : e.length ≤ 1048576) :
    Calls Try.prog 18 #[.int .i64 g, v, u] w fun r w' => ∃ v', r = .returned (.tuple #[v', .int .i64 (outerR g s d t e).1]) ∧ Arr w.heap.size w'.heap.size w' v' (outerR g s d t e).2.1 (outerR g s d t e).2.2 ∧ Below w.heap.size w w' := by
  have H : Hid (ArrI w v s d) := h
  have K : Hid (ArrI w u t e) := k
  obtain ⟨a, c, b, f, rfl, h1, h2, _, _⟩ := h
  obtain ⟨a', c', b', f', rfl, k1, k2, _, _⟩ := k
  have H1 : Hid (Ints w a s) := h1
  have H2 : Hid (Ints w b d) := h2
  have K1 : Hid (Ints w a' t) := k1
  have K2 : Hid (Ints w b' e) := k2
  have HD : Hid (d.length ≤ 1048576) := hd
  have HE : Hid (e.length ≤ 1048576) := he
  have LST : Hid (s.length + t.length ≤ 2097152) := by show _ ≤ _; omega
  obtain ⟨x, hx⟩ : ∃ x, x = (outerR g s d t e).1 := ⟨_, rfl⟩
  obtain ⟨S, hS⟩ : ∃ S, S = (outerR g s d t e).2.1 := ⟨_, rfl⟩
  obtain ⟨D, hD⟩ : ∃ D, D = (outerR g s d t e).2.2 := ⟨_, rfl⟩
  rw [← hx, ← hS, ← hD]
  obtain ⟨SH, hSH⟩ : ∃ SH, SH = s ++ t := ⟨_, rfl⟩
  have E1 : Hid (¬ (arrOk s d = true ∧ arrOk t e = true ∧ sign2 g = true) → x = 1 ∧ S = [] ∧ D = []) := fun q => by
    rw [outerR_bad q] at hx hS hD; exact ⟨hx, hS, hD⟩
  have E4 : Hid (arrOk s d = true → arrOk t e = true → sign2 g = true → 3 < SH.length → x = 4 ∧ S = [] ∧ D = []) := fun q1 q2 q3 q4 => by
    rw [hSH, List.length_append] at q4
    rw [outerR_told q1 q2 q3, if_pos q4] at hx hS hD; exact ⟨hx, hS, hD⟩
  have E6 : Hid (arrOk s d = true → arrOk t e = true → sign2 g = true → ¬ 3 < SH.length → sizeV SH < 0 → x = 6 ∧ S = [] ∧ D = []) := fun q1 q2 q3 q4 q5 => by
    rw [hSH, List.length_append] at q4
    rw [hSH] at q5
    rw [outerR_told q1 q2 q3, if_neg q4, if_pos q5] at hx hS hD; exact ⟨hx, hS, hD⟩
  have E0 : Hid (arrOk s d = true → arrOk t e = true → sign2 g = true → ¬ 3 < SH.length → 0 ≤ sizeV SH → (outC g d e d.length = 0 → x = 0 ∧ SH = S ∧ D = outD g d e d.length) ∧ (∀ y, y ≠ 0 → outC g d e d.length = y → x = y ∧ S = [] ∧ D = [])) := fun q1 q2 q3 q4 q5 => by
    rw [hSH, List.length_append] at q4
    rw [hSH] at q5
    rw [outerR_told q1 q2 q3, if_neg q4, if_neg (by omega)] at hx hS hD
    refine ⟨fun q => ?_, fun y hy q => ?_⟩
    · rw [q, mkR_good] at hx hS hD; exact ⟨hx, by rw [hSH, hS], hD⟩
    · rw [q, mkR_bad hy] at hx hS hD; exact ⟨hx, hS, hD⟩
  clear hx hS hD h1 h2 k1 k2 hs hd ht he
  go_enter Try.func18, Try.ntmps18
  go_wp2_with fail
  generalize hW : (((w.alloc (.cells #[.slice a s.length c, .slice b d.length f] 26)).alloc (.cells #[.slice a' t.length c', .slice b' e.length f'] 26)).alloc (.cells #[.slice none 0 0, .slice none 0 0] 26)).alloc (.cells #[.slice none 0 0, .slice none 0 0] 26) = w2
  have q4 := four7 w (.cells #[.slice a s.length c, .slice b d.length f] 26) (.cells #[.slice a' t.length c', .slice b' e.length f'] 26) (.cells #[.slice none 0 0, .slice none 0 0] 26) (.cells #[.slice none 0 0, .slice none 0 0] 26)
  have hb2 : Below w.heap.size w w2 := by rw [← hW]; exact bAlloc (bAlloc (bAlloc (bAlloc (Below.refl _ _) _) _) _) _
  rw [hW] at q4
  have X2 : Hid (Box w2 w.heap.size (.slice a s.length c) (.slice b d.length f) 26) := q4.1
  have Y2 : Hid (Box w2 (w.heap.size + 1) (.slice a' t.length c') (.slice b' e.length f') 26) := q4.2.1
  have R2 : Hid (Box w2 (w.heap.size + 1 + 1) (.slice none 0 0) (.slice none 0 0) 26) := q4.2.2.1
  have Z2 : Hid (Box w2 (w.heap.size + 1 + 1 + 1) (.slice none 0 0) (.slice none 0 0) 26) := q4.2.2.2
  have HB2 : Hid (Below w.heap.size w w2) := hb2
  have IS2 : Hid (Ints w2 a s) := H1.out.keep hb2
  have IT2 : Hid (Ints w2 a' t) := K1.out.keep hb2
  clear q4 hb2 hW
  have x0 := X2.out.c0
  have x1 := X2.out.c1
  have y0 := Y2.out.c0
  obtain ⟨aA, cA, wA, aB, cB, wB, aC, cC, wC, aD, cD, wD, aE, cE, wE, aF, cF, wF, aG, cG, wG, ⟨rA, rB, rC, rD, rE, rF, rG⟩, ⟨bA, bB, bC, bD, bE, bF, bG⟩, ⟨nD, nE, nF, nG⟩, ⟨xE, xB, xF, xC, xG⟩⟩ := shape_ways (w := w2) IS2.out IT2.out LST.out c c' (.cells #[] 3) (.cells #[.slice none 0 0, .slice none 0 0] 26) rfl rfl
  have RA : Hid (_ = _) := rA
  have BA : Hid (Below w2.heap.size w2 wA) := bA
  have XA : Hid (Box wA w.heap.size (.slice a s.length c) (.slice b d.length f) 26) := X2.out.keep bA
  have YA : Hid (Box wA (w.heap.size + 1) (.slice a' t.length c') (.slice b' e.length f') 26) := Y2.out.keep bA
  have RB : Hid (_ = _) := rB
  have BB : Hid (Below w2.heap.size w2 wB) := bB
  have XB : Hid (Box wB w.heap.size (.slice a s.length c) (.slice b d.length f) 26) := X2.out.keep bB
  have YB : Hid (Box wB (w.heap.size + 1) (.slice a' t.length c') (.slice b' e.length f') 26) := Y2.out.keep bB
  have RC : Hid (_ = _) := rC
  have BC : Hid (Below w2.heap.size w2 wC) := bC
  have XC : Hid (Box wC w.heap.size (.slice a s.length c) (.slice b d.length f) 26) := X2.out.keep bC
  have YC : Hid (Box wC (w.heap.size + 1) (.slice a' t.length c') (.slice b' e.length f') 26) := Y2.out.keep bC
  have RD : Hid (_ = _) := rD
  have BD : Hid (Below w2.heap.size w2 wD) := bD
  have XD : Hid (Box wD w.heap.size (.slice a s.length c) (.slice b d.length f) 26) := X2.out.keep bD
  have YD : Hid (Box wD (w.heap.size + 1) (.slice a' t.length c') (.slice b' e.length f') 26) := Y2.out.keep bD
  have RE : Hid (_ = _) := rE
  have BE : Hid (Below w2.heap.size w2 wE) := bE
  have XE : Hid (Box wE w.heap.size (.slice a s.length c) (.slice b d.length f) 26) := X2.out.keep bE
  have YE : Hid (Box wE (w.heap.size + 1) (.slice a' t.length c') (.slice b' e.length f') 26) := Y2.out.keep bE
  have RF : Hid (_ = _) := rF
  have BF : Hid (Below w2.heap.size w2 wF) := bF
  have XF : Hid (Box wF w.heap.size (.slice a s.length c) (.slice b d.length f) 26) := X2.out.keep bF
  have YF : Hid (Box wF (w.heap.size + 1) (.slice a' t.length c') (.slice b' e.length f') 26) := Y2.out.keep bF
  have RG : Hid (_ = _) := rG
  have BG : Hid (Below w2.heap.size w2 wG) := bG
  have XG : Hid (Box wG w.heap.size (.slice a s.length c) (.slice b d.length f) 26) := X2.out.keep bG
  have YG : Hid (Box wG (w.heap.size + 1) (.slice a' t.length c') (.slice b' e.length f') 26) := Y2.out.keep bG
  have ND : Hid (NewInts w2.heap.size wD (.slice aD SH.length cD) SH) := (by show NewInts _ _ _ _; rw [hSH]; exact nD)
  have NE : Hid (NewInts w2.heap.size wE (.slice aE SH.length cE) SH) := (by show NewInts _ _ _ _; rw [hSH]; exact nE)
  have NF : Hid (NewInts w2.heap.size wF (.slice aF SH.length cF) SH) := (by show NewInts _ _ _ _; rw [hSH]; exact nF)
  have NG : Hid (NewInts w2.heap.size wG (.slice aG SH.length cG) SH) := (by show NewInts _ _ _ _; rw [hSH]; exact nG)
  have ZE : Hid (Box wE wA.heap.size (.slice none 0 0) (.slice none 0 0) 26) := xE
  have ZF : Hid (Box wF w2.heap.size (.slice none 0 0) (.slice none 0 0) 26) := xF
  have ZG : Hid (Box wG (w2.heap.size + 1) (.slice none 0 0) (.slice none 0 0) 26) := xG
  have ZEc0 := ZE.out.c0
  have ZEc1 := ZE.out.c1
  have ZEf0 : wE.frozen? ⟨wA.heap.size, 0, none⟩ = false := free_at ZE.out 0
  have ZEf1 : wE.frozen? ⟨wA.heap.size, 1, none⟩ = false := free_at ZE.out 1
  have ZFc0 := ZF.out.c0
  have ZFc1 := ZF.out.c1
  have ZFf0 : wF.frozen? ⟨w2.heap.size, 0, none⟩ = false := free_at ZF.out 0
  have ZFf1 : wF.frozen? ⟨w2.heap.size, 1, none⟩ = false := free_at ZF.out 1
  have ZGc0 := ZG.out.c0
  have ZGc1 := ZG.out.c1
  have ZGf0 : wG.frozen? ⟨w2.heap.size + 1, 0, none⟩ = false := free_at ZG.out 0
  have ZGf1 : wG.frozen? ⟨w2.heap.size + 1, 1, none⟩ = false := free_at ZG.out 1
  have sA : w2.heap.size ≤ wA.heap.size := bA.size
  have ESH : Hid (SH.length = s.length + t.length) := by show _ = _; rw [hSH, List.length_append]
  clear rA rB rC rD rE rF rG bA bB bC bD bE bF bG nD nE nF nG xE xB xF xC xG
  go_wp2_with fail
  go_cut [9] from 14 (fun p w' => ∃ (g : Nat) (a9 : Option Addr) (c9 : Nat), p = .pointer (some ⟨g, 0, none⟩) ∧ Box w' g (.slice a9 SH.length c9) (.slice none 0 0) 26 ∧ NewInts w2.heap.size w' (.slice a9 SH.length c9) SH ∧ Below w2.heap.size w2 w' ∧ w2.heap.size ≤ g)
  case first =>
    have L2 := Z2.out.lt
    go_region_held3 (fun w' => w'.cell? ⟨w.heap.size, 0, none⟩ = some (.slice a s.length c) ∧ w'.cell? ⟨w.heap.size + 1, 0, none⟩ = some (.slice a' t.length c'))
      ((refine ⟨(show Box _ w.heap.size (.slice a s.length c) (.slice b d.length f) 26 from ?_).c0, (show Box _ (w.heap.size + 1) (.slice a' t.length c') (.slice b' e.length f') 26 from ?_).c0⟩ <;> (repeat first | with_reducible exact XA.out | with_reducible exact YA.out | with_reducible exact XB.out | with_reducible exact YB.out | with_reducible exact XC.out | with_reducible exact YC.out | with_reducible exact XD.out | with_reducible exact YD.out | with_reducible exact XE.out | with_reducible exact YE.out | with_reducible exact XF.out | with_reducible exact YF.out | with_reducible exact XG.out | with_reducible exact YG.out | with_reducible exact X2.out | with_reducible exact Y2.out | with_reducible refine Box.keep ?_ ((Below.refl _ _).drew) | with_reducible refine Box.keep ?_ (bAlloc (Below.refl _ _) _) | with_reducible refine Box.win ?_ (win_setCell _ _ _ _) (.inl (by (try simp); omega)))))
      (first
        | ((with_reducible show (if Region.wanted _ _ = true then Oper.wp Try.prog _ _ (World.drew (World.alloc w2 (.cells #[] 3))) _ _ else _)); refine step_append_ty (by rfl) (.tmp 15) (.tmp 17) 24 24 (by rfl) _ _ _ (by rfl) (by rfl) RA.out ?_)
        | ((with_reducible show (if Region.wanted _ _ = true then Oper.wp Try.prog _ _ (World.drew (World.alloc (World.alloc w2 (.cells #[.slice none 0 0, .slice none 0 0] 26)) (.cells #[] 3))) _ _ else _)); refine step_append_ty (by rfl) (.tmp 15) (.tmp 17) 24 24 (by rfl) _ _ _ (by rfl) (by rfl) RB.out ?_)
        | ((with_reducible show (if Region.wanted _ _ = true then Oper.wp Try.prog _ _ (World.drew (World.alloc (World.alloc w2 (.cells #[] 3)) (.cells #[.slice none 0 0, .slice none 0 0] 26))) _ _ else _)); refine step_append_ty (by rfl) (.tmp 15) (.tmp 17) 24 24 (by rfl) _ _ _ (by rfl) (by rfl) RC.out ?_)
        | ((with_reducible show (if Region.wanted _ _ = true then Oper.wp Try.prog _ _ wA _ _ else _)); refine step_append_ty (by rfl) (.tmp 18) (.tmp 20) 24 24 (by rfl) _ _ _ (by rfl) (by rfl) RD.out ?_)
        | ((with_reducible show (if Region.wanted _ _ = true then Oper.wp Try.prog _ _ (World.alloc wA (.cells #[.slice none 0 0, .slice none 0 0] 26)) _ _ else _)); refine step_append_ty (by rfl) (.tmp 18) (.tmp 20) 24 24 (by rfl) _ _ _ (by rfl) (by rfl) RE.out ?_)
        | ((with_reducible show (if Region.wanted _ _ = true then Oper.wp Try.prog _ _ wB _ _ else _)); refine step_append_ty (by rfl) (.tmp 18) (.tmp 20) 24 24 (by rfl) _ _ _ (by rfl) (by rfl) RF.out ?_)
        | ((with_reducible show (if Region.wanted _ _ = true then Oper.wp Try.prog _ _ wC _ _ else _)); refine step_append_ty (by rfl) (.tmp 18) (.tmp 20) 24 24 (by rfl) _ _ _ (by rfl) (by rfl) RG.out ?_))
    all_goals
      go_wp2_with fail
      go_meet
      case rel =>
        first
          | (refine ⟨wA.heap.size, aE, cE, by with_reducible rfl, ?_⟩; rw [ESH.out]; have qq := shape_put BE.out (by omega) ZE.out NE.out; rw [ESH.out] at qq; with_reducible exact ⟨qq.1, qq.2.1, qq.2.2, by omega⟩)
          | (refine ⟨w2.heap.size, aF, cF, by with_reducible rfl, ?_⟩; rw [ESH.out]; have qq := shape_put BF.out (by omega) ZF.out NF.out; rw [ESH.out] at qq; with_reducible exact ⟨qq.1, qq.2.1, qq.2.2, by omega⟩)
          | (refine ⟨(w2.heap.size + 1), aG, cG, by with_reducible rfl, ?_⟩; rw [ESH.out]; have qq := shape_put BG.out (by omega) ZG.out NG.out; rw [ESH.out] at qq; with_reducible exact ⟨qq.1, qq.2.1, qq.2.2, by omega⟩)
          | (refine ⟨wD.heap.size, aD, cD, by with_reducible rfl, ?_⟩; rw [ESH.out]; have qq := shape_new BD.out ND.out; rw [ESH.out] at qq; with_reducible exact ⟨qq.1, qq.2.1, qq.2.2, BD.out.size⟩)
  obtain ⟨w6, hwc⟩ : ∃ x, x = wc := ⟨_, rfl⟩
  subst hwc
  obtain ⟨g9, a9, c9, rfl, b9, n9, hb9, hg9⟩ := hcut
  have G6 : Hid (Box w6 g9 (.slice a9 SH.length c9) (.slice none 0 0) 26) := b9
  have N6 : Hid (NewInts w2.heap.size w6 (.slice a9 SH.length c9) SH) := n9
  have BW6 : Hid (Below w.heap.size w w6) := bTrans HB2.out hb9
  have GG : Hid (w2.heap.size ≤ g9) := hg9
  have X6 : Hid (Box w6 w.heap.size (.slice a s.length c) (.slice b d.length f) 26) := X2.out.keep hb9
  have Y6 : Hid (Box w6 (w.heap.size + 1) (.slice a' t.length c') (.slice b' e.length f') 26) := Y2.out.keep hb9
  have R6 : Hid (Box w6 (w.heap.size + 1 + 1) (.slice none 0 0) (.slice none 0 0) 26) := R2.out.keep hb9
  have Z6 : Hid (Box w6 (w.heap.size + 1 + 1 + 1) (.slice none 0 0) (.slice none 0 0) 26) := Z2.out.keep hb9
  have L2 : Hid (w.heap.size + 1 + 1 + 1 < w2.heap.size) := Z2.out.lt
  have L26 : Hid (w2.heap.size ≤ w6.heap.size) := hb9.size
  clear b9 n9 hb9 hg9 x0 x1 y0 X2 Y2 R2 Z2 IS2 IT2 HB2
  clear RA BA XA YA RB BB XB YB RC BC XC YC RD BD XD YD RE BE XE YE RF BF XF YF RG BG XG YG ND NE NF NG ZE ZF ZG ZEc0 ZEc1 ZEf0 ZEf1 ZFc0 ZFc1 ZFf0 ZFf1 ZGc0 ZGc1 ZGf0 ZGf1 sA hSH ESH LST aA cA wA aB cB wB aC cC wC aD cD wD aE cE wE aF cF wF aG cG wG
  have x0 := X6.out.c0
  have x1 := X6.out.c1
  have y0 := Y6.out.c0
  have y1 := Y6.out.c1
  go_wp2_with fail
  refine (arrOk_spec (H.out.keep BW6.out) HD.out).mono ?_
  rintro r w7 ⟨rfl, hb⟩
  have X7 : Hid (Box w7 w.heap.size (.slice a s.length c) (.slice b d.length f) 26) := X6.out.keep hb
  have Y7 : Hid (Box w7 (w.heap.size + 1) (.slice a' t.length c') (.slice b' e.length f') 26) := Y6.out.keep hb
  have R7 : Hid (Box w7 (w.heap.size + 1 + 1) (.slice none 0 0) (.slice none 0 0) 26) := R6.out.keep hb
  have Z7 : Hid (Box w7 (w.heap.size + 1 + 1 + 1) (.slice none 0 0) (.slice none 0 0) 26) := Z6.out.keep hb
  have G7 : Hid (Box w7 g9 (.slice a9 SH.length c9) (.slice none 0 0) 26) := G6.out.keep hb
  have N7 : Hid (NewInts w2.heap.size w7 (.slice a9 SH.length c9) SH) := N6.out.keep hb
  have BW7 : Hid (Below w.heap.size w w7) := bTrans BW6.out hb
  have L27 : Hid (w2.heap.size ≤ w7.heap.size) := Nat.le_trans L26.out hb.size
  clear hb X6 Y6 R6 Z6 G6 N6 BW6 L26
  clear x0 x1 y0 y1
  by_cases ho : arrOk s d = true
  · have HO : Hid (arrOk s d = true) := ho
    rw [ho]
    clear ho
    have x0 := X7.out.c0
    have x1 := X7.out.c1
    have y0 := Y7.out.c0
    have y1 := Y7.out.c1
    go_wp2_with fail
    refine (arrOk_spec (K.out.keep BW7.out) HE.out).mono ?_
    rintro r w8 ⟨rfl, hb⟩
    have X8 : Hid (Box w8 w.heap.size (.slice a s.length c) (.slice b d.length f) 26) := X7.out.keep hb
    have Y8 : Hid (Box w8 (w.heap.size + 1) (.slice a' t.length c') (.slice b' e.length f') 26) := Y7.out.keep hb
    have R8 : Hid (Box w8 (w.heap.size + 1 + 1) (.slice none 0 0) (.slice none 0 0) 26) := R7.out.keep hb
    have Z8 : Hid (Box w8 (w.heap.size + 1 + 1 + 1) (.slice none 0 0) (.slice none 0 0) 26) := Z7.out.keep hb
    have G8 : Hid (Box w8 g9 (.slice a9 SH.length c9) (.slice none 0 0) 26) := G7.out.keep hb
    have N8 : Hid (NewInts w2.heap.size w8 (.slice a9 SH.length c9) SH) := N7.out.keep hb
    have BW8 : Hid (Below w.heap.size w w8) := bTrans BW7.out hb
    have L28 : Hid (w2.heap.size ≤ w8.heap.size) := Nat.le_trans L27.out hb.size
    clear hb X7 Y7 R7 Z7 G7 N7 BW7 L27
    clear x0 x1 y0 y1
    by_cases ho' : arrOk t e = true
    · have HO' : Hid (arrOk t e = true) := ho'
      rw [ho']
      clear ho'
      go_wp2_with fail
      refine (sign2_spec g _).mono ?_
      rintro r w9 ⟨rfl, hw⟩
      subst w9
      by_cases hg : sign2 g = true
      · have HG : Hid (sign2 g = true) := hg
        rw [hg]
        clear hg
        have IH8 : Hid (Ints w8 a9 SH) := by
          obtain ⟨q1, q2, q3, q4⟩ := N8.out.ints
          cases q3
          exact q4
        have g0 := G8.out.c0
        by_cases hr : 3 < SH.length
        · obtain ⟨rfl, rfl, rfl⟩ := E4.out HO.out HO'.out HG.out hr
          have hri : (3 : Int) < (SH.length : Int) := by omega
          clear E0 E1 E4 E6 hr
          have r0 := R8.out.c0
          have r1 := R8.out.c1
          have f0 : w8.frozen? ⟨w.heap.size + 1 + 1, 0, none⟩ = false := free_at R8.out 0
          have f1 : w8.frozen? ⟨w.heap.size + 1 + 1, 1, none⟩ = false := free_at R8.out 1
          have z0 := Z8.out.c0
          have z1 := Z8.out.c1
          have HR : Hid (((w8.setCell ⟨w.heap.size + 1 + 1, 0, none⟩ (.slice none 0 0)).setCell ⟨w.heap.size + 1 + 1, 1, none⟩ (.slice none 0 0)).heap[w.heap.size + 1 + 1]? = some (.cells #[.slice none 0 0, .slice none 0 0] 26 (0, 0))) := arr_stored R8.out
          go_wp2
          refine bodyPost_ret (results_arr_tmp Try.results18 _ _ (w.heap.size + 1 + 1) _ _ rfl HR.out) rfl ?_
          exact ⟨_, rfl, arr_zero _ _ _, below_setCell (below_setCell BW8.out (by omega) _ _) (by omega) _ _⟩
        · have hri : ¬ (3 : Int) < (SH.length : Int) := by omega
          by_cases hz : 0 ≤ sizeV SH
          · have E0' := E0.out HO.out HO'.out HG.out hr hz
            have hzb : decide (0 ≤ sizeV SH) = true := by simpa using hz
            have EG : Hid (outC g d e d.length = 0 → x = 0 ∧ SH = S ∧ D = outD g d e d.length) := E0'.1
            have EB : Hid (∀ y, y ≠ 0 → outC g d e d.length = y → x = y ∧ S = [] ∧ D = []) := E0'.2
            have LD3 : Hid (d.length ≤ 300) := by have := arrOk_len HO.out; show _ ≤ _; omega
            have LE3 : Hid (e.length ≤ 300) := by have := arrOk_len HO'.out; show _ ≤ _; omega
            clear hz E0 E1 E4 E6 E0' hr
            go_wp2_with (go_at_call 55; refine (ok_spec _ IH8.out).mono ?_; rintro r wz ⟨rfl, rfl⟩)
            have OS : Hid (OutB g9 wz wz (.slice a9 SH.length c9) none 0 0 (outD g d e 0)) := outB_new G8.out
            have GL : Hid (w.heap.size + 1 + 1 + 1 < g9) := by have := L2.out; have := GG.out; show _ < _; omega
            clear g0
            have x1 := X8.out.c1
            go_loopw [10] (fun i w' => ∃ (k q : Nat) (ad : Option Addr) (cd : Nat), k ≤ d.length ∧ i = .int .i64 (k : Int) ∧ OutB g9 wz w' (.slice a9 SH.length c9) ad cd q (outD g d e k) ∧ outC g d e k = 0) (fun i _ => d.length - (intOf i).toNat)
            case atStart => exact ⟨0, _, _, _, by omega, rfl, OS.out, rfl⟩
            case round =>
              obtain ⟨k, q, ad, cd, hk, rfl, hO, hC⟩ := hrel
              have OK : Hid (OutB g9 wz wr (.slice a9 SH.length c9) ad cd q (outD g d e k)) := hO
              have CK : Hid (outC g d e k = 0) := hC
              clear hO hC OS x1
              have XR : Hid (Box wr w.heap.size (.slice a s.length c) (.slice b d.length f) 26) := X8.out.win OK.out.win (.inl (by have := GL.out; omega))
              have x1 := XR.out.c1
              by_cases hlt : (k : Int) < (d.length : Int)
              · have L : k < d.length := by omega
                have LK : Hid (k < d.length) := L
                obtain ⟨b1, o1, rfl, hb1, c1⟩ := H2.out.at L
                obtain ⟨y, hy⟩ : ∃ y, y = d.getD k 0 := ⟨_, rfl⟩
                rw [← hy] at c1
                have HY : Hid (y = d.getD k 0) := hy
                have CY : Hid (∀ W, Below w.heap.size w W → W.cell? ⟨b1, o1 + k, none⟩ = some (.int .i64 y)) := fun W hb => (hb.cell (p := ⟨b1, o1 + k, none⟩) hb1).trans c1
                clear c1 hy hb1 XR
                go_wp2
                go_loopw [11] (fun i w' => ∃ (j q : Nat) (ad : Option Addr) (cd : Nat), j ≤ e.length ∧ i = .int .i64 (j : Int) ∧ OutB g9 wz w' (.slice a9 SH.length c9) ad cd q (outD g d e k ++ spreadD g y e j) ∧ firstC (fun j => (twoV g y (e.getD j 0)).2) j = 0) (fun i _ => e.length - (intOf i).toNat)
                case atStart => exact ⟨0, _, _, _, by omega, rfl, by rw [show spreadD g y e 0 = [] from rfl, List.append_nil]; exact OK.out, rfl⟩
                case round =>
                  obtain ⟨j, q, ad, cd, hj, rfl, hO, hF⟩ := hrel
                  have OJ : Hid (OutB g9 wz wr (.slice a9 SH.length c9) ad cd q (outD g d e k ++ spreadD g y e j)) := hO
                  have FJ : Hid (firstC (fun j => (twoV g y (e.getD j 0)).2) j = 0) := hF
                  clear hO hF OK x1
                  have XR : Hid (Box wr w.heap.size (.slice a s.length c) (.slice (some ⟨b1, o1, none⟩) d.length f) 26) := X8.out.win OJ.out.win (.inl (by have := GL.out; omega))
                  have YR : Hid (Box wr (w.heap.size + 1) (.slice a' t.length c') (.slice b' e.length f') 26) := Y8.out.win OJ.out.win (.inl (by have := GL.out; omega))
                  have x1 := XR.out.c1
                  have y1 := YR.out.c1
                  by_cases hlt2 : (j : Int) < (e.length : Int)
                  · have LJ : j < e.length := by omega
                    have BWr : Hid (Below w.heap.size w wr) := BW8.out.trans (OJ.out.win.below (A := w.heap.size) (by have := GL.out; omega) BW8.out.size)
                    obtain ⟨b2, o2, rfl, hb2, c2⟩ := K2.out.at LJ
                    have c1' := CY.out _ BWr.out
                    have c2' : wr.cell? ⟨b2, o2 + j, none⟩ = some (.int .i64 (e.getD j 0)) := (BWr.out.cell (p := ⟨b2, o2 + j, none⟩) hb2).trans c2
                    have ES : Hid (outD g d e k ++ spreadD g y e (j + 1) = (outD g d e k ++ spreadD g y e j) ++ [(twoV g y (e.getD j 0)).1]) := by show _ = _; rw [spreadD_succ, List.append_assoc]
                    have TW : Hid (∀ W, Calls Try.prog 56 #[.int .i64 g, .int .i64 y, .int .i64 (e.getD j 0)] W fun e' w' => e' = .returned (.tuple #[.int .i64 (twoV g y (e.getD j 0)).1, .int .i64 (twoV g y (e.getD j 0)).2]) ∧ w' = W) := fun W => two_spec g y (e.getD j 0) W
                    have F1 : Hid ((twoV g y (e.getD j 0)).2 = 0 → firstC (fun j => (twoV g y (e.getD j 0)).2) (j + 1) = 0) := fun h => firstC_go FJ.out h
                    have F2 : Hid ((twoV g y (e.getD j 0)).2 ≠ 0 → x = (twoV g y (e.getD j 0)).2 ∧ S = [] ∧ D = []) := fun h => by
                      have h1 : spreadC g (d.getD k 0) e = (twoV g y (e.getD j 0)).2 := by rw [← HY.out]; exact firstC_stop FJ.out h LJ
                      refine EB.out _ h ?_
                      rw [← h1]
                      exact firstC_stop CK.out (by rw [h1]; exact h) LK.out
                    have QB : Hid (q < 1048576) := by
                      have h1 := OJ.out.len
                      rw [List.length_append, outD_len, spreadD_len] at h1
                      have h2 : k * e.length ≤ 300 * 300 := Nat.mul_le_mul (by have := LD3.out; omega) LE3.out
                      have h3 := LE3.out
                      show _ < _
                      omega
                    generalize (twoV g y (e.getD j 0)).1 = X0 at *
                    generalize (twoV g y (e.getD j 0)).2 = C0 at *
                    generalize e.getD j 0 = y2 at *
                    by_cases hc : C0 = 0
                    · subst hc
                      have F1' := F1.out rfl
                      have FF : Hid (firstC (fun j => (twoV g y (e.getD j 0)).2) (j + 1) = 0) := F1'
                      clear F1 F1' F2
                      have BDR : Hid (∀ n, Below wr.heap.size wr (wr.drewN n)) := fun n => bDrewN (Below.refl _ _) n
                      go_wp2_with fail
                      go_quiet ((go_at_call 56; exact Calls.quiet_of_same (TW.out _)))
                      generalize hWD : wr.drewN nq = wd
                      have GD : Hid (OutB g9 wz wd (.slice a9 SH.length c9) ad cd q (outD g d e k ++ spreadD g y e j)) := by rw [← hWD]; exact OJ.out.keep (BDR.out nq)
                      clear hWD
                      obtain ⟨a8, c8, w8, hr8, hb8, ho8⟩ := GD.out.grow1 QB.out X0
                      rw [← ES.out] at ho8
                      have R9 : Hid (_ = _) := hr8
                      have O8 : Hid (OutB g9 wz (w8.setCell ⟨g9, 1, none⟩ (.slice a8 (q + 1) c8)) (.slice a9 SH.length c9) a8 c8 (q + 1) (outD g d e k ++ spreadD g y e (j + 1))) := ho8
                      have n8 := hb8.c1
                      have n9 : w8.frozen? ⟨g9, 1, none⟩ = false := free_at hb8 1
                      clear hr8 ho8 hb8 ES
                      obtain ⟨m0, m1, m2, m3⟩ := GD.out.cells
                      clear x1 y1 c1' c2'
                      have hd3 := LD3.out
                      have he3 := LE3.out
                      go_wp2_with (at_builtin; refine wpList_append_ty rfl _ _ 24 24 rfl _ _ _ rfl rfl R9.out ?_)
                      go_roundw
                      case rel => exact ⟨j + 1, _, _, _, by omega, by go_num, O8.out, FF.out⟩
                      case measure => simp [intOf]; omega
                    · obtain ⟨rfl, rfl, rfl⟩ := F2.out hc
                      have hcc : (x != 0) = true := by simpa using hc
                      have BDR : Hid (∀ n, Below wr.heap.size wr (wr.drewN n)) := fun n => bDrewN (Below.refl _ _) n
                      have RR0 : Hid (Box wr (w.heap.size + 1 + 1) (.slice none 0 0) (.slice none 0 0) 26) := R8.out.win OJ.out.win (.inl (by have := GL.out; omega))
                      have ZZ0 : Hid (Box wr (w.heap.size + 1 + 1 + 1) (.slice none 0 0) (.slice none 0 0) 26) := Z8.out.win OJ.out.win (.inl (by have := GL.out; omega))
                      clear F1 F2
                      go_wp2_with fail
                      go_quiet ((go_at_call 56; exact Calls.quiet_of_same (TW.out _)))
                      generalize hWD : wr.drewN nq = wd
                      have RR : Hid (Box wd (w.heap.size + 1 + 1) (.slice none 0 0) (.slice none 0 0) 26) := by rw [← hWD]; exact RR0.out.keep (BDR.out nq)
                      have ZZ : Hid (Box wd (w.heap.size + 1 + 1 + 1) (.slice none 0 0) (.slice none 0 0) 26) := by rw [← hWD]; exact ZZ0.out.keep (BDR.out nq)
                      have BD : Hid (Below w.heap.size w wd) := by rw [← hWD]; exact bTrans BWr.out (BDR.out nq)
                      clear hWD x1 y1 c1' c2'
                      have r0 := RR.out.c0
                      have r1 := RR.out.c1
                      have f0 : wd.frozen? ⟨w.heap.size + 1 + 1, 0, none⟩ = false := free_at RR.out 0
                      have f1 : wd.frozen? ⟨w.heap.size + 1 + 1, 1, none⟩ = false := free_at RR.out 1
                      have z0 := ZZ.out.c0
                      have z1 := ZZ.out.c1
                      have HR : Hid (((wd.setCell ⟨w.heap.size + 1 + 1, 0, none⟩ (.slice none 0 0)).setCell ⟨w.heap.size + 1 + 1, 1, none⟩ (.slice none 0 0)).heap[w.heap.size + 1 + 1]? = some (.cells #[.slice none 0 0, .slice none 0 0] 26 (0, 0))) := arr_stored RR.out
                      go_wp2
                      refine bodyPost_ret (results_arr_tmp Try.results18 _ _ (w.heap.size + 1 + 1) _ _ rfl HR.out) rfl ?_
                      exact ⟨_, rfl, arr_zero _ _ _, below_setCell (below_setCell BD.out (by omega) _ _) (by omega) _ _⟩
                  · obtain rfl : j = e.length := by omega
                    have ED : Hid (outD g d e (k + 1) = outD g d e k ++ spreadD g y e e.length) := by show _ = _; rw [outD_succ, HY.out]
                    have EC : Hid (outC g d e (k + 1) = 0) := firstC_go CK.out (by show spreadC g (d.getD k 0) e = 0; rw [← HY.out]; exact FJ.out)
                    rw [← ED.out] at OJ
                    have hd3 := LD3.out
                    have he3 := LE3.out
                    go_wp2
                    go_roundw
                    case rel => exact ⟨k + 1, _, _, _, by have := LK.out; omega, by go_num, OJ.out, EC.out⟩
                    case measure => simp [intOf]; have := LK.out; omega
              · obtain rfl : k = d.length := by omega
                obtain ⟨rfl, rfl, rfl⟩ := EG.out CK.out
                have HA : Hid (Arr w2.heap.size wr.heap.size wr (.agg #[.slice a9 SH.length c9, .slice ad q cd]) SH (outD g d e d.length)) := OK.out.arrN (E := wz.heap.size) N8.out.piece (Nat.le_refl _) L28.out (notAt_own (newInts_notBox N8.out G8.out))
                have RR : Hid (Box wr (w.heap.size + 1 + 1) (.slice none 0 0) (.slice none 0 0) 26) := R8.out.win OK.out.win (.inl (by have := GL.out; omega))
                have BWr : Hid (Below w.heap.size w wr) := BW8.out.trans (OK.out.win.below (A := w.heap.size) (by have := GL.out; omega) BW8.out.size)
                obtain ⟨m0, m1, m2, m3⟩ := OK.out.cells
                have r0 := RR.out.c0
                have r1 := RR.out.c1
                have f0 : wr.frozen? ⟨w.heap.size + 1 + 1, 0, none⟩ = false := free_at RR.out 0
                have f1 : wr.frozen? ⟨w.heap.size + 1 + 1, 1, none⟩ = false := free_at RR.out 1
                have HR : Hid (((wr.setCell ⟨w.heap.size + 1 + 1, 0, none⟩ (.slice a9 SH.length c9)).setCell ⟨w.heap.size + 1 + 1, 1, none⟩ (.slice ad q cd)).heap[w.heap.size + 1 + 1]? = some (.cells #[.slice a9 SH.length c9, .slice ad q cd] 26 (0, 0))) := arr_stored RR.out
                go_wp2
                refine bodyPost_ret (results_arr_tmp Try.results18 _ _ (w.heap.size + 1 + 1) _ _ rfl HR.out) rfl ?_
                refine ⟨_, rfl, ?_, below_setCell (below_setCell BWr.out (by omega) _ _) (by omega) _ _⟩
                have L := L2.out
                exact ((HA.out.setCell (by omega) _ _).setCell (by omega) _ _).mono (by omega) (by simp only [size_setCell]; omega)
          · obtain ⟨rfl, rfl, rfl⟩ := E6.out HO.out HO'.out HG.out hr (by omega)
            have hzb : decide (0 ≤ sizeV SH) = false := by simpa using hz
            clear hz E0 E1 E4 E6 hr
            have r0 := R8.out.c0
            have r1 := R8.out.c1
            have f0 : w8.frozen? ⟨w.heap.size + 1 + 1, 0, none⟩ = false := free_at R8.out 0
            have f1 : w8.frozen? ⟨w.heap.size + 1 + 1, 1, none⟩ = false := free_at R8.out 1
            have z0 := Z8.out.c0
            have z1 := Z8.out.c1
            have HR : Hid (((w8.setCell ⟨w.heap.size + 1 + 1, 0, none⟩ (.slice none 0 0)).setCell ⟨w.heap.size + 1 + 1, 1, none⟩ (.slice none 0 0)).heap[w.heap.size + 1 + 1]? = some (.cells #[.slice none 0 0, .slice none 0 0] 26 (0, 0))) := arr_stored R8.out
            go_wp2_with (go_at_call 55; refine (ok_spec _ IH8.out).mono ?_; rintro r wz ⟨rfl, rfl⟩)
            refine bodyPost_ret (results_arr_tmp Try.results18 _ _ (w.heap.size + 1 + 1) _ _ rfl HR.out) rfl ?_
            exact ⟨_, rfl, arr_zero _ _ _, below_setCell (below_setCell BW8.out (by omega) _ _) (by omega) _ _⟩
      · rw [show sign2 g = false by simpa using hg]
        obtain ⟨rfl, rfl, rfl⟩ := E1.out (fun q => hg q.2.2)
        clear E0 E1 E4 E6
        have r0 := R8.out.c0
        have r1 := R8.out.c1
        have f0 : w8.frozen? ⟨w.heap.size + 1 + 1, 0, none⟩ = false := free_at R8.out 0
        have f1 : w8.frozen? ⟨w.heap.size + 1 + 1, 1, none⟩ = false := free_at R8.out 1
        have z0 := Z8.out.c0
        have z1 := Z8.out.c1
        have HR : Hid (((w8.setCell ⟨w.heap.size + 1 + 1, 0, none⟩ (.slice none 0 0)).setCell ⟨w.heap.size + 1 + 1, 1, none⟩ (.slice none 0 0)).heap[w.heap.size + 1 + 1]? = some (.cells #[.slice none 0 0, .slice none 0 0] 26 (0, 0))) := arr_stored R8.out
        go_wp2
        refine bodyPost_ret (results_arr_tmp Try.results18 _ _ (w.heap.size + 1 + 1) _ _ rfl HR.out) rfl ?_
        exact ⟨_, rfl, arr_zero _ _ _, below_setCell (below_setCell BW8.out (by omega) _ _) (by omega) _ _⟩
    · rw [show arrOk t e = false by simpa using ho']
      obtain ⟨rfl, rfl, rfl⟩ := E1.out (fun q => ho' q.2.1)
      clear E0 E1 E4 E6
      have r0 := R8.out.c0
      have r1 := R8.out.c1
      have f0 : w8.frozen? ⟨w.heap.size + 1 + 1, 0, none⟩ = false := free_at R8.out 0
      have f1 : w8.frozen? ⟨w.heap.size + 1 + 1, 1, none⟩ = false := free_at R8.out 1
      have z0 := Z8.out.c0
      have z1 := Z8.out.c1
      have HR : Hid (((w8.setCell ⟨w.heap.size + 1 + 1, 0, none⟩ (.slice none 0 0)).setCell ⟨w.heap.size + 1 + 1, 1, none⟩ (.slice none 0 0)).heap[w.heap.size + 1 + 1]? = some (.cells #[.slice none 0 0, .slice none 0 0] 26 (0, 0))) := arr_stored R8.out
      go_wp2
      refine bodyPost_ret (results_arr_tmp Try.results18 _ _ (w.heap.size + 1 + 1) _ _ rfl HR.out) rfl ?_
      exact ⟨_, rfl, arr_zero _ _ _, below_setCell (below_setCell BW8.out (by omega) _ _) (by omega) _ _⟩
  · rw [show arrOk s d = false by simpa using ho]
    obtain ⟨rfl, rfl, rfl⟩ := E1.out (fun q => ho q.1)
    clear E0 E1 E4 E6
    have r0 := R7.out.c0
    have r1 := R7.out.c1
    have f0 : w7.frozen? ⟨w.heap.size + 1 + 1, 0, none⟩ = false := free_at R7.out 0
    have f1 : w7.frozen? ⟨w.heap.size + 1 + 1, 1, none⟩ = false := free_at R7.out 1
    have z0 := Z7.out.c0
    have z1 := Z7.out.c1
    have HR : Hid (((w7.setCell ⟨w.heap.size + 1 + 1, 0, none⟩ (.slice none 0 0)).setCell ⟨w.heap.size + 1 + 1, 1, none⟩ (.slice none 0 0)).heap[w.heap.size + 1 + 1]? = some (.cells #[.slice none 0 0, .slice none 0 0] 26 (0, 0))) := arr_stored R7.out
    go_wp2
    refine bodyPost_ret (results_arr_tmp Try.results18 _ _ (w.heap.size + 1 + 1) _ _ rfl HR.out) rfl ?_
    exact ⟨_, rfl, arr_zero _ _ _, below_setCell (below_setCell BW7.out (by omega) _ _) (by omega) _ _⟩
end Go.Proofs.Ytcpgdhffemecbaa
