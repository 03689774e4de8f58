/-
  Several texts, one behind the other: SpecFit, SpecOne, SpecTwo.
-/
import Derived.Test.YtnkacfgbkfkhdaaGreatY6
import Derived.Test.YtnkacfgbkfkhdaaGreatY7
namespace Go.Proofs.YtnkacfgbkfkhdaaGreat
open Go.RowKit
set_option linter.unusedVariables false
set_option linter.unusedSimpArgs false
theorem fitC_bad {s d t e : List Int} (h : ¬ (arrOk s d = true ∧ arrOk t e = true)) : fitC s d t e = 1 := by unfold fitC; rw [if_neg h]
set_option maxRecDepth 20000 in
set_option maxHeartbeats 4000000 in
/-- Fit. -/
theorem fit_spec {s d t e : List Int} {w : World} {v u : Value} (h : ArrI w v s d) (k : ArrI w u t e) (hs : s.length ≤ 1048576) (hd : d.length ≤ 1048576) (ht : t.length ≤ 1048576) (he : e.length ≤ 1048576) :
    Calls Tryz.prog 101 #[v, u] w fun r w' => ∃ v', r = .returned (.tuple #[v', .int .i64 (fitC s d t e)]) ∧ Piece w.heap.size w'.heap.size w' v' (fitS s d t e) ∧ Below w.heap.size w w' := by
  have H : Hid (ArrI w v s d) := h
  have K : Hid (ArrI w u t e) := k
  obtain ⟨a, c, b, f, rfl, h1, h2, _, _⟩ := h
  obtain ⟨a', c', b', f', rfl, k1, k2, _, _⟩ := k
  have H1 : Hid (Ints w a s) := h1
  have K1 : Hid (Ints w a' t) := k1
  have HS : Hid (s.length ≤ 1048576) := hs
  have HD : Hid (d.length ≤ 1048576) := hd
  have HT : Hid (t.length ≤ 1048576) := ht
  have HE : Hid (e.length ≤ 1048576) := he
  clear h1 h2 k1 k2 hs hd ht he
  by_cases ho : arrOk s d = true
  · have HO : Hid (arrOk s d = true) := ho
    by_cases ho' : arrOk t e = true
    · have HO' : Hid (arrOk t e = true) := ho'
      have key : Hid (fitC s d t e = if s = [] ∨ t = [] then 0 else if s.length ≠ t.length then 4 else if s ≠ t then 3 else 0) := by show _ = _; unfold fitC; rw [if_pos ⟨ho, ho'⟩]
      have fs : Hid (fitS s d t e = if fitC s d t e = 0 then (if s = [] then t else s) else []) := rfl
      clear ho ho'
      go_enter Tryz.func101, Tryz.ntmps101
      go_wp2_with fail
      refine (arrOk_spec (H.out.keep (bAlloc (bAlloc (Below.refl _ _) _) _)) HD.out).mono ?_
      rintro r w1 ⟨rfl, hb⟩
      have HB1 : Hid (Below w.heap.size w w1) := bTrans (bAlloc (bAlloc (Below.refl _ _) _) _) hb
      have X1 : Hid (Box w1 w.heap.size (.slice a s.length c) (.slice b d.length f) 26) := ((box_new w _ _ _).keep (bAlloc (Below.refl _ _) _)).keep hb
      have Y1 : Hid (Box w1 (w.heap.size + 1) (.slice a' t.length c') (.slice b' e.length f') 26) := (box_new2 w _ _ _ _).keep hb
      have x0 := X1.out.c0
      have x1 := X1.out.c1
      have y0 := Y1.out.c0
      have y1 := Y1.out.c1
      clear hb
      rw [HO.out]
      go_wp2_with fail
      refine (arrOk_spec (K.out.keep HB1.out) HE.out).mono ?_
      rintro r w2 ⟨rfl, hb⟩
      have HB2 : Hid (Below w.heap.size w w2) := bTrans HB1.out hb
      have X2 : Hid (Box w2 w.heap.size (.slice a s.length c) (.slice b d.length f) 26) := X1.out.keep hb
      have Y2 : Hid (Box w2 (w.heap.size + 1) (.slice a' t.length c') (.slice b' e.length f') 26) := Y1.out.keep hb
      clear hb x0 x1 y0 y1 X1 Y1 HB1
      have x0 := X2.out.c0
      have y0 := Y2.out.c0
      have xa := (X2.out.keep (bAlloc (Below.refl _ _) (.cells #[] 3))).c0
      have ya := (Y2.out.keep (bAlloc (Below.refl _ _) (.cells #[] 3))).c0
      rw [HO'.out]
      obtain ⟨v5, w5, hrun5, hp5, hb5⟩ := append_new ((K1.out.keep HB2.out).alloc (.cells #[] 3)) HT.out w2.heap.size 0 c'
      obtain ⟨v6, w6, hrun6, hp6, hb6⟩ := append_new ((H1.out.keep HB2.out).alloc (.cells #[] 3)) HS.out w2.heap.size 0 c
      obtain ⟨a5, c5, rfl, _⟩ := hp5.ints
      obtain ⟨a6, c6, rfl, _⟩ := hp6.ints
      have R5 : Hid (∀ (ty : TypeId), (Builtin.append_ #[24, 24] ty #[.slice (some ⟨w2.heap.size, 0, none⟩) 0 0, .slice a' t.length c']).run Tryz.prog (w2.alloc (.cells #[] 3)) = .ok (.slice a5 t.length c5) w5) := hrun5
      have R6 : Hid (∀ (ty : TypeId), (Builtin.append_ #[24, 24] ty #[.slice (some ⟨w2.heap.size, 0, none⟩) 0 0, .slice a s.length c]).run Tryz.prog (w2.alloc (.cells #[] 3)) = .ok (.slice a6 s.length c6) w6) := hrun6
      have P5 : Hid (Piece w.heap.size w5.heap.size w5 (.slice a5 t.length c5) t ∧ Below w.heap.size w w5) := ⟨hp5.mono (by have := HB2.out.size; simp; omega) (Nat.le_refl _), bTrans (bAlloc HB2.out _) hb5⟩
      have P6 : Hid (Piece w.heap.size w6.heap.size w6 (.slice a6 s.length c6) s ∧ Below w.heap.size w w6) := ⟨hp6.mono (by have := HB2.out.size; simp; omega) (Nat.le_refl _), bTrans (bAlloc HB2.out _) hb6⟩
      clear hrun5 hrun6 hp5 hp6 hb5 hb6
      by_cases e1 : s = []
      · subst e1
        have EC : Hid (fitC [] d t e = 0) := by show _ = _; rw [key.out, if_pos (.inl rfl)]
        have ES : Hid (fitS [] d t e = t) := by show _ = _; rw [fs.out, if_pos EC.out, if_pos rfl]
        go_wp2_with (at_builtin; refine wpList_append_run rfl _ _ 24 24 rfl _ _ _ rfl rfl R5.out ?_)
        go_ret2
        exact ⟨_, by rw [EC.out]; rfl, by rw [ES.out]; exact P5.out.1, P5.out.2⟩
      · have n1 : ((s.length : Int) == 0) = false := by
          have := List.length_pos_iff.2 e1
          simp; omega
        by_cases e2 : t = []
        · subst e2
          have EC : Hid (fitC s d [] e = 0) := by show _ = _; rw [key.out, if_pos (.inr rfl)]
          have ES : Hid (fitS s d [] e = s) := by show _ = _; rw [fs.out, if_pos EC.out, if_neg e1]
          go_wp2_with (at_builtin; refine wpList_append_run rfl _ _ 24 24 rfl _ _ _ rfl rfl R6.out ?_)
          go_ret2
          exact ⟨_, by rw [EC.out]; rfl, by rw [ES.out]; exact P6.out.1, P6.out.2⟩
        · have n2 : ((t.length : Int) == 0) = false := by
            have := List.length_pos_iff.2 e2
            simp; omega
          have key2 : Hid (fitC s d t e = if s.length ≠ t.length then 4 else if s ≠ t then 3 else 0) := by show _ = _; rw [key.out, if_neg (by simp [e1, e2])]
          have E1 : Hid (s ≠ []) := e1
          clear e1 e2
          by_cases e3 : s.length = t.length
          · have n3 : ((s.length : Int) != (t.length : Int)) = false := by simp [e3]
            have E3 : Hid (s.length = t.length) := e3
            clear e3
            have SL : Hid (s.length ≤ 4611686018427387904) := by have := HS.out; show _ ≤ _; omega
            have SA : Hid (Ints w2 a s) := H1.out.keep HB2.out
            have SB : Hid (Ints w2 a' t) := K1.out.keep HB2.out
            by_cases e4 : s = t
            · have EC : Hid (fitC s d t e = 0) := by show _ = _; rw [key2.out, if_neg (by simpa using E3.out), if_neg (by simpa using e4)]
              have ES : Hid (fitS s d t e = s) := by show _ = _; rw [fs.out, if_pos EC.out, if_neg E1.out]
              have DQ : Hid (decide (s = t) = true) := by show _ = _; simpa using e4
              clear e4
              go_wp2_with fail
              refine (l2same_ints c c' SL.out SA.out SB.out).mono ?_
              rintro r w3 ⟨rfl, j, hw⟩
              rw [DQ.out]
              have BJ : Hid (Below w2.heap.size w2 w3) := by rw [hw]; exact bDrewN (Below.refl _ _) j
              have g0 := (X2.out.keep BJ.out).c0
              have g1 := (X2.out.keep (bAlloc BJ.out (.cells #[] 3))).c0
              obtain ⟨v7, w7, hrun7, hp7, hb7⟩ := append_new ((SA.out.keep BJ.out).alloc (.cells #[] 3)) HS.out w3.heap.size 0 c
              obtain ⟨a7, c7, rfl, _⟩ := hp7.ints
              have R7 : Hid (∀ (ty : TypeId), (Builtin.append_ #[24, 24] ty #[.slice (some ⟨w3.heap.size, 0, none⟩) 0 0, .slice a s.length c]).run Tryz.prog (w3.alloc (.cells #[] 3)) = .ok (.slice a7 s.length c7) w7) := hrun7
              have P7 : Hid (Piece w.heap.size w7.heap.size w7 (.slice a7 s.length c7) s ∧ Below w.heap.size w w7) := ⟨hp7.mono (by have := HB2.out.size; have := BJ.out.size; simp; omega) (Nat.le_refl _), bTrans (bAlloc (bTrans HB2.out BJ.out) _) hb7⟩
              clear hw hrun7 hp7 hb7
              go_wp2_with (at_builtin; refine wpList_append_run rfl _ _ 24 24 rfl _ _ _ rfl rfl R7.out ?_)
              go_ret2
              exact ⟨_, by rw [EC.out]; rfl, by rw [ES.out]; exact P7.out.1, P7.out.2⟩
            · have EC : Hid (fitC s d t e = 3) := by show _ = _; rw [key2.out, if_neg (by simpa using E3.out), if_pos e4]
              have ES : Hid (fitS s d t e = []) := by show _ = _; rw [fs.out, if_neg (by rw [EC.out]; decide)]
              have DQ : Hid (decide (s = t) = false) := by show _ = _; simpa using e4
              clear e4
              go_wp2_with fail
              refine (l2same_ints c c' SL.out SA.out SB.out).mono ?_
              rintro r w3 ⟨rfl, j, hw⟩
              rw [DQ.out]
              have BJ : Hid (Below w.heap.size w w3) := by rw [hw]; exact bDrewN HB2.out j
              clear hw
              go_wp2
              go_ret2
              exact ⟨_, by rw [EC.out]; rfl, by rw [ES.out]; exact ⟨_, 0, rfl, Nat.le_refl _, .inl rfl⟩, bAlloc BJ.out _⟩
          · have n3 : ((s.length : Int) != (t.length : Int)) = true := by simp; omega
            have EC : Hid (fitC s d t e = 4) := by show _ = _; rw [key2.out, if_pos e3]
            have ES : Hid (fitS s d t e = []) := by show _ = _; rw [fs.out, if_neg (by rw [EC.out]; decide)]
            clear e3
            go_wp2
            go_ret2
            exact ⟨_, by rw [EC.out]; rfl, by rw [ES.out]; exact ⟨_, 0, rfl, Nat.le_refl _, .inl rfl⟩, bAlloc HB2.out _⟩
    · have EC : Hid (fitC s d t e = 1) := fitC_bad (by rintro ⟨_, h⟩; exact ho' h)
      have ES : Hid (fitS s d t e = []) := fitS_bad (by rw [EC.out]; decide)
      have HO' : Hid (arrOk t e = false) := by show _ = _; simpa using ho'
      clear ho ho'
      go_enter Tryz.func101, Tryz.ntmps101
      go_wp2_with fail
      refine (arrOk_spec (H.out.keep (bAlloc (bAlloc (Below.refl _ _) _) _)) HD.out).mono ?_
      rintro r w1 ⟨rfl, hb⟩
      have HB1 : Hid (Below w.heap.size w w1) := bTrans (bAlloc (bAlloc (Below.refl _ _) _) _) hb
      have Y1 : Hid (Box w1 (w.heap.size + 1) (.slice a' t.length c') (.slice b' e.length f') 26) := (box_new2 w _ _ _ _).keep hb
      have y0 := Y1.out.c0
      have y1 := Y1.out.c1
      clear hb
      rw [HO.out]
      go_wp2_with fail
      refine (arrOk_spec (K.out.keep HB1.out) HE.out).mono ?_
      rintro r w2 ⟨rfl, hb⟩
      have HB2 : Hid (Below w.heap.size w w2) := bTrans HB1.out hb
      clear hb
      rw [HO'.out]
      go_wp2
      go_ret2
      exact ⟨_, by rw [EC.out]; rfl, by rw [ES.out]; exact ⟨_, 0, rfl, Nat.le_refl _, .inl rfl⟩, bAlloc HB2.out _⟩
  · have EC : Hid (fitC s d t e = 1) := fitC_bad (by rintro ⟨h, _⟩; exact ho h)
    have ES : Hid (fitS s d t e = []) := fitS_bad (by rw [EC.out]; decide)
    have HO : Hid (arrOk s d = false) := by show _ = _; simpa using ho
    clear ho
    go_enter Tryz.func101, Tryz.ntmps101
    go_wp2_with fail
    refine (arrOk_spec (H.out.keep (bAlloc (bAlloc (Below.refl _ _) _) _)) HD.out).mono ?_
    rintro r w1 ⟨rfl, hb⟩
    have HB1 : Hid (Below w.heap.size w w1) := bTrans (bAlloc (bAlloc (Below.refl _ _) _) _) hb
    clear hb
    rw [HO.out]
    go_wp2
    go_ret2
    exact ⟨_, by rw [EC.out]; rfl, by rw [ES.out]; exact ⟨_, 0, rfl, Nat.le_refl _, .inl rfl⟩, bAlloc HB1.out _⟩
set_option maxRecDepth 20000 in
set_option maxHeartbeats 1000000 in
/-- l4Of. -/
theorem of_spec {s d : List Int} {w : World} {v : Value} (i : Nat) (h : ArrI w v s d) (h0 : s = [] → 0 < d.length) (h1 : s ≠ [] → i < d.length) (hd : d.length ≤ 1048576) :
    Calls Tryz.prog 102 #[v, .int .i64 (i : Int)] w fun r w' => r = .returned (.int .i64 (numOf s d i)) ∧ Below w.heap.size w w' := by
  obtain ⟨a, c, b, f, rfl, i1, i2, _, _⟩ := h
  by_cases e : s = []
  · subst e
    have E : Hid (numOf [] d i = d.getD 0 0) := by show _ = _; unfold numOf; rw [if_pos rfl]
    obtain ⟨b1, o1, rfl, hb1, c1⟩ := i2.at (h0 rfl)
    rw [Nat.add_zero] at c1
    have c2 : ∀ O : Obj, (w.alloc O).cell? ⟨b1, o1, none⟩ = some (.int .i64 (d.getD 0 0)) := fun O => ((bAlloc (Below.refl _ _) O).cell (p := ⟨b1, o1, none⟩) hb1).trans c1
    have hl : (0 : Int) < (d.length : Int) := by have := h0 rfl; omega
    generalize d.getD 0 0 = x at *
    clear i1 i2 h0 h1 c1
    go_enter Tryz.func102, Tryz.ntmps102
    go_wp2
    go_ret
    exact ⟨by rw [E.out]; rfl, bAlloc (Below.refl _ _) _⟩
  · have E : Hid (numOf s d i = d.getD i 0) := by show _ = _; unfold numOf; rw [if_neg e]
    obtain ⟨b1, o1, rfl, hb1, c1⟩ := i2.at (h1 e)
    have c2 : ∀ O : Obj, (w.alloc O).cell? ⟨b1, o1 + i, none⟩ = some (.int .i64 (d.getD i 0)) := fun O => ((bAlloc (Below.refl _ _) O).cell (p := ⟨b1, o1 + i, none⟩) hb1).trans c1
    have hl : (i : Int) < (d.length : Int) := by have := h1 e; omega
    have n1 : ((s.length : Int) == 0) = false := by
      have := List.length_pos_iff.2 e
      simp; omega
    generalize d.getD i 0 = x at *
    clear i1 i2 h0 h1 c1 e
    go_enter Tryz.func102, Tryz.ntmps102
    go_wp2
    go_ret
    exact ⟨by rw [E.out]; rfl, bAlloc (Below.refl _ _) _⟩
end Go.Proofs.YtnkacfgbkfkhdaaGreat
namespace Go.Proofs.YtnkacfgbkfkhdaaGreat
open Go.RowKit
theorem ret_int' {k : IntKind} {a b : Int} (h : a = b) : Ending.returned (.int k a) = .returned (.int k b) := by rw [h]
theorem ret_two' {a b c d : Int} (h : a = b) (h' : c = d) : Ending.returned (.tuple #[.int .i64 a, .int .i64 c]) = .returned (.tuple #[.int .i64 b, .int .i64 d]) := by rw [h, h']
theorem ret_bool {a b : Bool} (h : a = b) : Ending.returned (.bool a) = .returned (.bool b) := by rw [h]
set_option maxHeartbeats 400000 in
theorem sign2_spec (s : Int) (w : World) : Calls Tryz.prog 29 #[.int .i64 s] w fun e w' => e = .returned (.bool (sign2 s)) ∧ w' = w := by
  go_enter Tryz.func29, Tryz.ntmps29
  go_wp2
  all_goals
    go_ret
    refine ⟨ret_bool ?_, rfl⟩
    simp_all [sign2]
end Go.Proofs.YtnkacfgbkfkhdaaGreat
namespace Go.Proofs.YtnkacfgbkfkhdaaGreat
open Go.RowKit
set_option maxHeartbeats 400000 in
theorem floor_spec (a b : Int) (hb : b ≠ 0) (a1 : -1000000000000 ≤ a) (a2 : a ≤ 1000000000000) (b1 : -1000000000000 ≤ b) (b2 : b ≤ 1000000000000) (w : World) :
    Calls Tryz.prog 78 #[.int .i64 a, .int .i64 b] w fun e w' => e = .returned (.int .i64 (flo a b)) ∧ w' = w := by
  have HG : Hid (flo a b = if a.tmod b ≠ 0 ∧ (decide (a < 0) != decide (b < 0)) = true then a.tdiv b - 1 else a.tdiv b) := flo_go a b hb
  obtain ⟨t1, t2⟩ := tdiv_bd (b := b) a1 a2
  have _ := b1
  have _ := b2
  go_enter Tryz.func78, Tryz.ntmps78
  go_wp2
  all_goals
    go_ret
    refine ⟨ret_int' ?_, rfl⟩
    rw [HG.out]
    simp_all [bne]
set_option maxHeartbeats 400000 in
theorem times_spec0 (a b : Int) (h : a = 0 ∨ b = 0) (w : World) :
    Calls Tryz.prog 77 #[.int .i64 a, .int .i64 b] w fun e w' => e = .returned (.tuple #[.int .i64 0, .bool true]) ∧ w' = w := by
  by_cases p : a = 0
  · subst p
    go_enter Tryz.func77, Tryz.ntmps77
    go_wp2
    go_ret2
    exact ⟨rfl, rfl⟩
  · have q : b = 0 := by omega
    have p' : (a == 0) = false := by simpa using p
    subst q
    clear h
    go_enter Tryz.func77, Tryz.ntmps77
    go_wp2
    go_ret2
    exact ⟨rfl, rfl⟩
set_option maxHeartbeats 400000 in
theorem times_spec1 (a b : Int) (a1 : -1000000000000 ≤ a) (a2 : a ≤ 1000000000000) (b1 : -1000000000000 ≤ b) (b2 : b ≤ 1000000000000) (ha : a ≠ 0) (hb : b ≠ 0) (h : ok (a * b) = false) (w : World) :
    Calls Tryz.prog 77 #[.int .i64 a, .int .i64 b] w fun e w' => e = .returned (.tuple #[.int .i64 0, .bool false]) ∧ w' = w := by
  have ha' : (a == 0) = false := by simpa using ha
  have hb' : (b == 0) = false := by simpa using hb
  have hb0 : 0 < mag b := by unfold mag; split <;> omega
  have hg : 1000000000000 / mag b < mag a := by
    by_cases p : 1000000000000 / mag b < mag a
    · exact p
    · rw [times_small p hb] at h; cases h
  clear h
  go_enter Tryz.func77, Tryz.ntmps77
  go_wp2_with (go_at_call 80; refine (max_spec _ _ _).mono ?_; rintro e w' ⟨rfl, hw⟩; subst w'; rw [mx_mag])
  go_ret2
  exact ⟨rfl, rfl⟩
set_option maxHeartbeats 400000 in
theorem times_spec2 (a b : Int) (a1 : -1000000000000 ≤ a) (a2 : a ≤ 1000000000000) (b1 : -1000000000000 ≤ b) (b2 : b ≤ 1000000000000) (ha : a ≠ 0) (hb : b ≠ 0) (h : ok (a * b) = true) (w : World) :
    Calls Tryz.prog 77 #[.int .i64 a, .int .i64 b] w fun e w' => e = .returned (.tuple #[.int .i64 (a * b), .bool true]) ∧ w' = w := by
  have ha' : (a == 0) = false := by simpa using ha
  have hb' : (b == 0) = false := by simpa using hb
  have hb0 : 0 < mag b := by unfold mag; split <;> omega
  have hg : ¬ 1000000000000 / mag b < mag a := fun p => by rw [times_big p hb] at h; cases h
  obtain ⟨p1, p2⟩ := ok_bd h
  clear h
  go_enter Tryz.func77, Tryz.ntmps77
  go_wp2_with (go_at_call 80; refine (max_spec _ _ _).mono ?_; rintro e w' ⟨rfl, hw⟩; subst w'; rw [mx_mag])
  go_ret2
  exact ⟨rfl, rfl⟩
set_option maxHeartbeats 1000000 in
theorem two_specBad (s a b : Int) (h : sign2 s = false ∨ ok a = false ∨ ok b = false) (w : World) :
    Calls Tryz.prog 59 #[.int .i64 s, .int .i64 a, .int .i64 b] w fun e w' => e = .returned (.tuple #[.int .i64 0, .int .i64 1]) ∧ w' = w := by
  by_cases hs : sign2 s = true
  · by_cases ha : ok a = true
    · have hb : ok b = false := by simpa [hs, ha] using h
      clear h
      go_enter Tryz.func59, Tryz.ntmps59
      go_wp2_with (first | (go_at_call 29; refine (sign2_spec _ _).mono ?_; rintro e w' ⟨rfl, hw⟩; subst w') | (go_at_call 58; refine (numOk_spec _ _).mono ?_; rintro e w' ⟨rfl, hw⟩; subst w'))
      go_ret2
      exact ⟨rfl, rfl⟩
    · have ha : ok a = false := by simpa using ha
      clear h
      go_enter Tryz.func59, Tryz.ntmps59
      go_wp2_with (first | (go_at_call 29; refine (sign2_spec _ _).mono ?_; rintro e w' ⟨rfl, hw⟩; subst w') | (go_at_call 58; refine (numOk_spec _ _).mono ?_; rintro e w' ⟨rfl, hw⟩; subst w'))
      go_ret2
      exact ⟨rfl, rfl⟩
  · have hs : sign2 s = false := by simpa using hs
    clear h
    go_enter Tryz.func59, Tryz.ntmps59
    go_wp2_with (first | (go_at_call 29; refine (sign2_spec _ _).mono ?_; rintro e w' ⟨rfl, hw⟩; subst w') | (go_at_call 58; refine (numOk_spec _ _).mono ?_; rintro e w' ⟨rfl, hw⟩; subst w'))
    go_ret2
    exact ⟨rfl, rfl⟩
set_option maxHeartbeats 1000000 in
theorem two_spec43 (a b : Int) (a1 : -1000000000000 ≤ a) (a2 : a ≤ 1000000000000) (b1 : -1000000000000 ≤ b) (b2 : b ≤ 1000000000000) (w : World) :
    Calls Tryz.prog 59 #[.int .i64 43, .int .i64 a, .int .i64 b] w fun e w' => e = .returned (.tuple #[.int .i64 (twoV 43 a b).1, .int .i64 (twoV 43 a b).2]) ∧ w' = w := by
  have ka := ok_mk a1 a2
  have kb := ok_mk b1 b2
  have hs : sign2 43 = true := by decide
  by_cases hv : ok (a + b) = true
  · go_enter Tryz.func59, Tryz.ntmps59
    go_wp2_with (first | (go_at_call 29; refine (sign2_spec _ _).mono ?_; rintro e w' ⟨rfl, hw⟩; subst w') | (go_at_call 58; refine (numOk_spec _ _).mono ?_; rintro e w' ⟨rfl, hw⟩; subst w'))
    go_ret2
    exact ⟨ret_two' (by rw [twoV_43 ka kb]; exact (lim_yes hv).1.symm) (by rw [twoV_43 ka kb]; exact (lim_yes hv).2.symm), rfl⟩
  · have hv : ok (a + b) = false := by simpa using hv
    go_enter Tryz.func59, Tryz.ntmps59
    go_wp2_with (first | (go_at_call 29; refine (sign2_spec _ _).mono ?_; rintro e w' ⟨rfl, hw⟩; subst w') | (go_at_call 58; refine (numOk_spec _ _).mono ?_; rintro e w' ⟨rfl, hw⟩; subst w'))
    go_ret2
    exact ⟨ret_two' (by rw [twoV_43 ka kb]; exact (lim_no hv).1.symm) (by rw [twoV_43 ka kb]; exact (lim_no hv).2.symm), rfl⟩
set_option maxHeartbeats 1000000 in
theorem two_spec45 (a b : Int) (a1 : -1000000000000 ≤ a) (a2 : a ≤ 1000000000000) (b1 : -1000000000000 ≤ b) (b2 : b ≤ 1000000000000) (w : World) :
    Calls Tryz.prog 59 #[.int .i64 45, .int .i64 a, .int .i64 b] w fun e w' => e = .returned (.tuple #[.int .i64 (twoV 45 a b).1, .int .i64 (twoV 45 a b).2]) ∧ w' = w := by
  have ka := ok_mk a1 a2
  have kb := ok_mk b1 b2
  have hs : sign2 45 = true := by decide
  by_cases hv : ok (a - b) = true
  · go_enter Tryz.func59, Tryz.ntmps59
    go_wp2_with (first | (go_at_call 29; refine (sign2_spec _ _).mono ?_; rintro e w' ⟨rfl, hw⟩; subst w') | (go_at_call 58; refine (numOk_spec _ _).mono ?_; rintro e w' ⟨rfl, hw⟩; subst w'))
    go_ret2
    exact ⟨ret_two' (by rw [twoV_45 ka kb]; exact (lim_yes hv).1.symm) (by rw [twoV_45 ka kb]; exact (lim_yes hv).2.symm), rfl⟩
  · have hv : ok (a - b) = false := by simpa using hv
    go_enter Tryz.func59, Tryz.ntmps59
    go_wp2_with (first | (go_at_call 29; refine (sign2_spec _ _).mono ?_; rintro e w' ⟨rfl, hw⟩; subst w') | (go_at_call 58; refine (numOk_spec _ _).mono ?_; rintro e w' ⟨rfl, hw⟩; subst w'))
    go_ret2
    exact ⟨ret_two' (by rw [twoV_45 ka kb]; exact (lim_no hv).1.symm) (by rw [twoV_45 ka kb]; exact (lim_no hv).2.symm), rfl⟩
set_option maxHeartbeats 1000000 in
theorem two_spec42z (a b : Int) (a1 : -1000000000000 ≤ a) (a2 : a ≤ 1000000000000) (b1 : -1000000000000 ≤ b) (b2 : b ≤ 1000000000000) (h0 : a = 0 ∨ b = 0) (w : World) :
    Calls Tryz.prog 59 #[.int .i64 42, .int .i64 a, .int .i64 b] w fun e w' => e = .returned (.tuple #[.int .i64 (twoV 42 a b).1, .int .i64 (twoV 42 a b).2]) ∧ w' = w := by
  have ka := ok_mk a1 a2
  have kb := ok_mk b1 b2
  have hs : sign2 42 = true := by decide
  have hz : a * b = 0 := by rcases h0 with h0 | h0 <;> simp [h0]
  have HZ : Hid (a * b = 0) := hz
  clear hz
  by_cases hv : ok ((0 : Int)) = true
  · go_enter Tryz.func59, Tryz.ntmps59
    go_wp2_with (first | (go_at_call 29; refine (sign2_spec _ _).mono ?_; rintro e w' ⟨rfl, hw⟩; subst w') | (go_at_call 77; refine (times_spec0 _ _ h0 _).mono ?_; rintro e w' ⟨rfl, hw⟩; subst w') | (go_at_call 58; refine (numOk_spec _ _).mono ?_; rintro e w' ⟨rfl, hw⟩; subst w'))
    go_ret2
    exact ⟨ret_two' (by rw [twoV_42 ka kb, HZ.out]; exact (lim_yes hv).1.symm) (by rw [twoV_42 ka kb, HZ.out]; exact (lim_yes hv).2.symm), rfl⟩
  · have hv : ok ((0 : Int)) = false := by simpa using hv
    go_enter Tryz.func59, Tryz.ntmps59
    go_wp2_with (first | (go_at_call 29; refine (sign2_spec _ _).mono ?_; rintro e w' ⟨rfl, hw⟩; subst w') | (go_at_call 77; refine (times_spec0 _ _ h0 _).mono ?_; rintro e w' ⟨rfl, hw⟩; subst w') | (go_at_call 58; refine (numOk_spec _ _).mono ?_; rintro e w' ⟨rfl, hw⟩; subst w'))
    go_ret2
    exact ⟨ret_two' (by rw [twoV_42 ka kb, HZ.out]; exact (lim_no hv).1.symm) (by rw [twoV_42 ka kb, HZ.out]; exact (lim_no hv).2.symm), rfl⟩
set_option maxHeartbeats 1000000 in
theorem two_spec42n (a b : Int) (a1 : -1000000000000 ≤ a) (a2 : a ≤ 1000000000000) (b1 : -1000000000000 ≤ b) (b2 : b ≤ 1000000000000) (ha : a ≠ 0) (hb : b ≠ 0) (w : World) :
    Calls Tryz.prog 59 #[.int .i64 42, .int .i64 a, .int .i64 b] w fun e w' => e = .returned (.tuple #[.int .i64 (twoV 42 a b).1, .int .i64 (twoV 42 a b).2]) ∧ w' = w := by
  have ka := ok_mk a1 a2
  have kb := ok_mk b1 b2
  have hs : sign2 42 = true := by decide
  by_cases hv : ok (a * b) = true
  · go_enter Tryz.func59, Tryz.ntmps59
    go_wp2_with (first | (go_at_call 29; refine (sign2_spec _ _).mono ?_; rintro e w' ⟨rfl, hw⟩; subst w') | (go_at_call 77; refine (times_spec2 _ _ a1 a2 b1 b2 ha hb hv _).mono ?_; rintro e w' ⟨rfl, hw⟩; subst w') | (go_at_call 58; refine (numOk_spec _ _).mono ?_; rintro e w' ⟨rfl, hw⟩; subst w'))
    go_ret2
    exact ⟨ret_two' (by rw [twoV_42 ka kb]; exact (lim_yes hv).1.symm) (by rw [twoV_42 ka kb]; exact (lim_yes hv).2.symm), rfl⟩
  · have hv : ok (a * b) = false := by simpa using hv
    go_enter Tryz.func59, Tryz.ntmps59
    go_wp2_with (first | (go_at_call 29; refine (sign2_spec _ _).mono ?_; rintro e w' ⟨rfl, hw⟩; subst w') | (go_at_call 77; refine (times_spec1 _ _ a1 a2 b1 b2 ha hb hv _).mono ?_; rintro e w' ⟨rfl, hw⟩; subst w') | (go_at_call 58; refine (numOk_spec _ _).mono ?_; rintro e w' ⟨rfl, hw⟩; subst w'))
    go_ret2
    exact ⟨ret_two' (by rw [twoV_42 ka kb]; exact (lim_no hv).1.symm) (by rw [twoV_42 ka kb]; exact (lim_no hv).2.symm), rfl⟩
set_option maxHeartbeats 1000000 in
theorem two_spec37z (a : Int) (a1 : -1000000000000 ≤ a) (a2 : a ≤ 1000000000000) (w : World) :
    Calls Tryz.prog 59 #[.int .i64 37, .int .i64 a, .int .i64 0] w fun e w' => e = .returned (.tuple #[.int .i64 (twoV 37 a 0).1, .int .i64 (twoV 37 a 0).2]) ∧ w' = w := by
  have ka := ok_mk a1 a2
  have kb : ok 0 = true := by decide
  have hs : sign2 37 = true := by decide
  have E : Hid (twoV 37 a 0 = (0, 2)) := twoV_37n ka kb rfl
  go_enter Tryz.func59, Tryz.ntmps59
  go_wp2_with (first | (go_at_call 29; refine (sign2_spec _ _).mono ?_; rintro e w' ⟨rfl, hw⟩; subst w') | (go_at_call 58; refine (numOk_spec _ _).mono ?_; rintro e w' ⟨rfl, hw⟩; subst w'))
  go_ret2
  exact ⟨ret_two' (by rw [E.out]) (by rw [E.out]), rfl⟩
set_option maxHeartbeats 1000000 in
theorem two_spec37n (a b : Int) (a1 : -1000000000000 ≤ a) (a2 : a ≤ 1000000000000) (b1 : -1000000000000 ≤ b) (b2 : b ≤ 1000000000000) (hb : b ≠ 0) (w : World) :
    Calls Tryz.prog 59 #[.int .i64 37, .int .i64 a, .int .i64 b] w fun e w' => e = .returned (.tuple #[.int .i64 (twoV 37 a b).1, .int .i64 (twoV 37 a b).2]) ∧ w' = w := by
  have ka := ok_mk a1 a2
  have kb := ok_mk b1 b2
  have hs : sign2 37 = true := by decide
  have hb' : (b == 0) = false := by simpa using hb
  by_cases hv : ok (flo a b) = true
  · go_enter Tryz.func59, Tryz.ntmps59
    go_wp2_with (first | (go_at_call 29; refine (sign2_spec _ _).mono ?_; rintro e w' ⟨rfl, hw⟩; subst w') | (go_at_call 78; refine (floor_spec _ _ hb a1 a2 b1 b2 _).mono ?_; rintro e w' ⟨rfl, hw⟩; subst w') | (go_at_call 58; refine (numOk_spec _ _).mono ?_; rintro e w' ⟨rfl, hw⟩; subst w'))
    go_ret2
    exact ⟨ret_two' (by rw [twoV_37 ka kb hb]; exact (lim_yes hv).1.symm) (by rw [twoV_37 ka kb hb]; exact (lim_yes hv).2.symm), rfl⟩
  · have hv : ok (flo a b) = false := by simpa using hv
    go_enter Tryz.func59, Tryz.ntmps59
    go_wp2_with (first | (go_at_call 29; refine (sign2_spec _ _).mono ?_; rintro e w' ⟨rfl, hw⟩; subst w') | (go_at_call 78; refine (floor_spec _ _ hb a1 a2 b1 b2 _).mono ?_; rintro e w' ⟨rfl, hw⟩; subst w') | (go_at_call 58; refine (numOk_spec _ _).mono ?_; rintro e w' ⟨rfl, hw⟩; subst w'))
    go_ret2
    exact ⟨ret_two' (by rw [twoV_37 ka kb hb]; exact (lim_no hv).1.symm) (by rw [twoV_37 ka kb hb]; exact (lim_no hv).2.symm), rfl⟩
set_option maxHeartbeats 1000000 in
theorem two_spec124z (a b : Int) (a1 : -1000000000000 ≤ a) (a2 : a ≤ 1000000000000) (b1 : -1000000000000 ≤ b) (b2 : b ≤ 1000000000000) (ha : a = 0) (w : World) :
    Calls Tryz.prog 59 #[.int .i64 124, .int .i64 a, .int .i64 b] w fun e w' => e = .returned (.tuple #[.int .i64 (twoV 124 a b).1, .int .i64 (twoV 124 a b).2]) ∧ w' = w := by
  have ka := ok_mk a1 a2
  have kb := ok_mk b1 b2
  have hs : sign2 124 = true := by decide
  go_enter Tryz.func59, Tryz.ntmps59
  go_wp2_with (first | (go_at_call 29; refine (sign2_spec _ _).mono ?_; rintro e w' ⟨rfl, hw⟩; subst w') | (go_at_call 58; refine (numOk_spec _ _).mono ?_; rintro e w' ⟨rfl, hw⟩; subst w'))
  go_ret2
  exact ⟨ret_two' (by rw [twoV_124 ka kb, if_pos ha]; exact (lim_yes kb).1.symm) (by rw [twoV_124 ka kb, if_pos ha]; exact (lim_yes kb).2.symm), rfl⟩
set_option maxHeartbeats 1000000 in
theorem two_spec124n (a b : Int) (a1 : -1000000000000 ≤ a) (a2 : a ≤ 1000000000000) (b1 : -1000000000000 ≤ b) (b2 : b ≤ 1000000000000) (ha : a ≠ 0) (w : World) :
    Calls Tryz.prog 59 #[.int .i64 124, .int .i64 a, .int .i64 b] w fun e w' => e = .returned (.tuple #[.int .i64 (twoV 124 a b).1, .int .i64 (twoV 124 a b).2]) ∧ w' = w := by
  have ka := ok_mk a1 a2
  have kb := ok_mk b1 b2
  have hs : sign2 124 = true := by decide
  have ha' : (a == 0) = false := by simpa using ha
  have he : Hid (b - a * flo b a = rst b a) := rst_eq b a
  obtain ⟨r1, r2⟩ := rst_bd (a := b) ha a1 a2
  have hv : ok (b - a * flo b a) = true := by rw [he.out]; exact ok_mk r1 r2
  have p1 : -2000000000000 ≤ a * flo b a := by have := he.out; omega
  have p2 : a * flo b a ≤ 2000000000000 := by have := he.out; omega
  clear r1 r2
  go_enter Tryz.func59, Tryz.ntmps59
  go_wp2_with (first | (go_at_call 29; refine (sign2_spec _ _).mono ?_; rintro e w' ⟨rfl, hw⟩; subst w') | (go_at_call 78; refine (floor_spec _ _ ha b1 b2 a1 a2 _).mono ?_; rintro e w' ⟨rfl, hw⟩; subst w') | (go_at_call 58; refine (numOk_spec _ _).mono ?_; rintro e w' ⟨rfl, hw⟩; subst w'))
  go_ret2
  exact ⟨ret_two' (by rw [twoV_124 ka kb, if_neg ha, ← he.out]; exact (lim_yes hv).1.symm) (by rw [twoV_124 ka kb, if_neg ha, ← he.out]; exact (lim_yes hv).2.symm), rfl⟩
set_option maxHeartbeats 1000000 in
theorem two_spec38 (a b : Int) (a1 : -1000000000000 ≤ a) (a2 : a ≤ 1000000000000) (b1 : -1000000000000 ≤ b) (b2 : b ≤ 1000000000000) (w : World) :
    Calls Tryz.prog 59 #[.int .i64 38, .int .i64 a, .int .i64 b] w fun e w' => e = .returned (.tuple #[.int .i64 (twoV 38 a b).1, .int .i64 (twoV 38 a b).2]) ∧ w' = w := by
  have ka := ok_mk a1 a2
  have kb := ok_mk b1 b2
  have hs : sign2 38 = true := by decide
  by_cases hv : ok (mn a b) = true
  · go_enter Tryz.func59, Tryz.ntmps59
    go_wp2_with (first | (go_at_call 29; refine (sign2_spec _ _).mono ?_; rintro e w' ⟨rfl, hw⟩; subst w') | (go_at_call 79; refine (min_spec _ _ _).mono ?_; rintro e w' ⟨rfl, hw⟩; subst w') | (go_at_call 58; refine (numOk_spec _ _).mono ?_; rintro e w' ⟨rfl, hw⟩; subst w'))
    go_ret2
    exact ⟨ret_two' (by rw [twoV_38 ka kb]; exact (lim_yes hv).1.symm) (by rw [twoV_38 ka kb]; exact (lim_yes hv).2.symm), rfl⟩
  · have hv : ok (mn a b) = false := by simpa using hv
    go_enter Tryz.func59, Tryz.ntmps59
    go_wp2_with (first | (go_at_call 29; refine (sign2_spec _ _).mono ?_; rintro e w' ⟨rfl, hw⟩; subst w') | (go_at_call 79; refine (min_spec _ _ _).mono ?_; rintro e w' ⟨rfl, hw⟩; subst w') | (go_at_call 58; refine (numOk_spec _ _).mono ?_; rintro e w' ⟨rfl, hw⟩; subst w'))
    go_ret2
    exact ⟨ret_two' (by rw [twoV_38 ka kb]; exact (lim_no hv).1.symm) (by rw [twoV_38 ka kb]; exact (lim_no hv).2.symm), rfl⟩
set_option maxHeartbeats 1000000 in
theorem two_spec94 (a b : Int) (a1 : -1000000000000 ≤ a) (a2 : a ≤ 1000000000000) (b1 : -1000000000000 ≤ b) (b2 : b ≤ 1000000000000) (w : World) :
    Calls Tryz.prog 59 #[.int .i64 94, .int .i64 a, .int .i64 b] w fun e w' => e = .returned (.tuple #[.int .i64 (twoV 94 a b).1, .int .i64 (twoV 94 a b).2]) ∧ w' = w := by
  have ka := ok_mk a1 a2
  have kb := ok_mk b1 b2
  have hs : sign2 94 = true := by decide
  by_cases hv : ok (mx a b) = true
  · go_enter Tryz.func59, Tryz.ntmps59
    go_wp2_with (first | (go_at_call 29; refine (sign2_spec _ _).mono ?_; rintro e w' ⟨rfl, hw⟩; subst w') | (go_at_call 80; refine (max_spec _ _ _).mono ?_; rintro e w' ⟨rfl, hw⟩; subst w') | (go_at_call 58; refine (numOk_spec _ _).mono ?_; rintro e w' ⟨rfl, hw⟩; subst w'))
    go_ret2
    exact ⟨ret_two' (by rw [twoV_94 ka kb]; exact (lim_yes hv).1.symm) (by rw [twoV_94 ka kb]; exact (lim_yes hv).2.symm), rfl⟩
  · have hv : ok (mx a b) = false := by simpa using hv
    go_enter Tryz.func59, Tryz.ntmps59
    go_wp2_with (first | (go_at_call 29; refine (sign2_spec _ _).mono ?_; rintro e w' ⟨rfl, hw⟩; subst w') | (go_at_call 80; refine (max_spec _ _ _).mono ?_; rintro e w' ⟨rfl, hw⟩; subst w') | (go_at_call 58; refine (numOk_spec _ _).mono ?_; rintro e w' ⟨rfl, hw⟩; subst w'))
    go_ret2
    exact ⟨ret_two' (by rw [twoV_94 ka kb]; exact (lim_no hv).1.symm) (by rw [twoV_94 ka kb]; exact (lim_no hv).2.symm), rfl⟩
set_option maxHeartbeats 1000000 in
theorem two_spec61 (a b : Int) (a1 : -1000000000000 ≤ a) (a2 : a ≤ 1000000000000) (b1 : -1000000000000 ≤ b) (b2 : b ≤ 1000000000000) (w : World) :
    Calls Tryz.prog 59 #[.int .i64 61, .int .i64 a, .int .i64 b] w fun e w' => e = .returned (.tuple #[.int .i64 (twoV 61 a b).1, .int .i64 (twoV 61 a b).2]) ∧ w' = w := by
  have ka := ok_mk a1 a2
  have kb := ok_mk b1 b2
  have hs : sign2 61 = true := by decide
  by_cases hv : ok (bit (a == b)) = true
  · go_enter Tryz.func59, Tryz.ntmps59
    go_wp2_with (first | (go_at_call 29; refine (sign2_spec _ _).mono ?_; rintro e w' ⟨rfl, hw⟩; subst w') | (go_at_call 81; refine (bit_spec _ _).mono ?_; rintro e w' ⟨rfl, hw⟩; subst w') | (go_at_call 58; refine (numOk_spec _ _).mono ?_; rintro e w' ⟨rfl, hw⟩; subst w'))
    go_ret2
    exact ⟨ret_two' (by rw [twoV_61 ka kb]; exact (lim_yes hv).1.symm) (by rw [twoV_61 ka kb]; exact (lim_yes hv).2.symm), rfl⟩
  · have hv : ok (bit (a == b)) = false := by simpa using hv
    go_enter Tryz.func59, Tryz.ntmps59
    go_wp2_with (first | (go_at_call 29; refine (sign2_spec _ _).mono ?_; rintro e w' ⟨rfl, hw⟩; subst w') | (go_at_call 81; refine (bit_spec _ _).mono ?_; rintro e w' ⟨rfl, hw⟩; subst w') | (go_at_call 58; refine (numOk_spec _ _).mono ?_; rintro e w' ⟨rfl, hw⟩; subst w'))
    go_ret2
    exact ⟨ret_two' (by rw [twoV_61 ka kb]; exact (lim_no hv).1.symm) (by rw [twoV_61 ka kb]; exact (lim_no hv).2.symm), rfl⟩
set_option maxHeartbeats 1000000 in
theorem two_spec60 (a b : Int) (a1 : -1000000000000 ≤ a) (a2 : a ≤ 1000000000000) (b1 : -1000000000000 ≤ b) (b2 : b ≤ 1000000000000) (w : World) :
    Calls Tryz.prog 59 #[.int .i64 60, .int .i64 a, .int .i64 b] w fun e w' => e = .returned (.tuple #[.int .i64 (twoV 60 a b).1, .int .i64 (twoV 60 a b).2]) ∧ w' = w := by
  have ka := ok_mk a1 a2
  have kb := ok_mk b1 b2
  have hs : sign2 60 = true := by decide
  by_cases hv : ok (bit (decide (a < b))) = true
  · go_enter Tryz.func59, Tryz.ntmps59
    go_wp2_with (first | (go_at_call 29; refine (sign2_spec _ _).mono ?_; rintro e w' ⟨rfl, hw⟩; subst w') | (go_at_call 81; refine (bit_spec _ _).mono ?_; rintro e w' ⟨rfl, hw⟩; subst w') | (go_at_call 58; refine (numOk_spec _ _).mono ?_; rintro e w' ⟨rfl, hw⟩; subst w'))
    go_ret2
    exact ⟨ret_two' (by rw [twoV_60 ka kb]; exact (lim_yes hv).1.symm) (by rw [twoV_60 ka kb]; exact (lim_yes hv).2.symm), rfl⟩
  · have hv : ok (bit (decide (a < b))) = false := by simpa using hv
    go_enter Tryz.func59, Tryz.ntmps59
    go_wp2_with (first | (go_at_call 29; refine (sign2_spec _ _).mono ?_; rintro e w' ⟨rfl, hw⟩; subst w') | (go_at_call 81; refine (bit_spec _ _).mono ?_; rintro e w' ⟨rfl, hw⟩; subst w') | (go_at_call 58; refine (numOk_spec _ _).mono ?_; rintro e w' ⟨rfl, hw⟩; subst w'))
    go_ret2
    exact ⟨ret_two' (by rw [twoV_60 ka kb]; exact (lim_no hv).1.symm) (by rw [twoV_60 ka kb]; exact (lim_no hv).2.symm), rfl⟩
set_option maxHeartbeats 1000000 in
theorem two_spec62 (a b : Int) (a1 : -1000000000000 ≤ a) (a2 : a ≤ 1000000000000) (b1 : -1000000000000 ≤ b) (b2 : b ≤ 1000000000000) (w : World) :
    Calls Tryz.prog 59 #[.int .i64 62, .int .i64 a, .int .i64 b] w fun e w' => e = .returned (.tuple #[.int .i64 (twoV 62 a b).1, .int .i64 (twoV 62 a b).2]) ∧ w' = w := by
  have ka := ok_mk a1 a2
  have kb := ok_mk b1 b2
  have hs : sign2 62 = true := by decide
  by_cases hv : ok (bit (decide (b < a))) = true
  · go_enter Tryz.func59, Tryz.ntmps59
    go_wp2_with (first | (go_at_call 29; refine (sign2_spec _ _).mono ?_; rintro e w' ⟨rfl, hw⟩; subst w') | (go_at_call 81; refine (bit_spec _ _).mono ?_; rintro e w' ⟨rfl, hw⟩; subst w') | (go_at_call 58; refine (numOk_spec _ _).mono ?_; rintro e w' ⟨rfl, hw⟩; subst w'))
    go_ret2
    exact ⟨ret_two' (by rw [twoV_62 ka kb]; exact (lim_yes hv).1.symm) (by rw [twoV_62 ka kb]; exact (lim_yes hv).2.symm), rfl⟩
  · have hv : ok (bit (decide (b < a))) = false := by simpa using hv
    go_enter Tryz.func59, Tryz.ntmps59
    go_wp2_with (first | (go_at_call 29; refine (sign2_spec _ _).mono ?_; rintro e w' ⟨rfl, hw⟩; subst w') | (go_at_call 81; refine (bit_spec _ _).mono ?_; rintro e w' ⟨rfl, hw⟩; subst w') | (go_at_call 58; refine (numOk_spec _ _).mono ?_; rintro e w' ⟨rfl, hw⟩; subst w'))
    go_ret2
    exact ⟨ret_two' (by rw [twoV_62 ka kb]; exact (lim_no hv).1.symm) (by rw [twoV_62 ka kb]; exact (lim_no hv).2.symm), rfl⟩
/-- The specification's Two, whatever it is given. -/
theorem two_spec (s a b : Int) (w : World) :
    Calls Tryz.prog 59 #[.int .i64 s, .int .i64 a, .int .i64 b] w fun e w' => e = .returned (.tuple #[.int .i64 (twoV s a b).1, .int .i64 (twoV s a b).2]) ∧ w' = w := by
  by_cases ha : ok a = true
  · by_cases hb : ok b = true
    · obtain ⟨a1, a2⟩ := ok_bd ha
      obtain ⟨b1, b2⟩ := ok_bd hb
      by_cases hs : sign2 s = true
      · rcases sign2_of hs with rfl | rfl | rfl | rfl | rfl | rfl | rfl | rfl | rfl | rfl
        · exact two_spec43 a b a1 a2 b1 b2 w
        · exact two_spec45 a b a1 a2 b1 b2 w
        · by_cases h0 : a = 0 ∨ b = 0
          · exact two_spec42z a b a1 a2 b1 b2 h0 w
          · exact two_spec42n a b a1 a2 b1 b2 (fun e => h0 (.inl e)) (fun e => h0 (.inr e)) w
        · by_cases h0 : b = 0
          · subst h0; exact two_spec37z a a1 a2 w
          · exact two_spec37n a b a1 a2 b1 b2 h0 w
        · by_cases h0 : a = 0
          · exact two_spec124z a b a1 a2 b1 b2 h0 w
          · exact two_spec124n a b a1 a2 b1 b2 h0 w
        · exact two_spec38 a b a1 a2 b1 b2 w
        · exact two_spec94 a b a1 a2 b1 b2 w
        · exact two_spec61 a b a1 a2 b1 b2 w
        · exact two_spec60 a b a1 a2 b1 b2 w
        · exact two_spec62 a b a1 a2 b1 b2 w
      · have hs : sign2 s = false := by simpa using hs
        rw [twoV_none hs]; exact two_specBad s a b (.inl hs) w
    · have hb : ok b = false := by simpa using hb
      rw [twoV_bad (.inr hb)]; exact two_specBad s a b (.inr (.inr hb)) w
  · have ha : ok a = false := by simpa using ha
    rw [twoV_bad (.inl ha)]; exact two_specBad s a b (.inr (.inl ha)) w
end Go.Proofs.YtnkacfgbkfkhdaaGreat
