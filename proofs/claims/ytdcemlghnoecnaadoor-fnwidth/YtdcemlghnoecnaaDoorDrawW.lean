/-
  Walks: the specification's draw of a list to show (l16DrawList, DrawShowWide).
-/
import Derived.Test.YtdcemlghnoecnaaDoorDrawArr
namespace Go.Proofs.YtdcemlghnoecnaaDoor
open Go.RowKit
set_option linter.unusedVariables false
set_option linter.unusedSimpArgs false
set_option maxRecDepth 20000 in
set_option maxHeartbeats 2000000 in
theorem list16_spec {w : World} {a : Option Addr} {len cap : Nat} (hs : Src w.heap.size w a len) (hb20 : len ≤ 1048576) :
    Calls Tryd.prog 43 #[.slice a len cap] w fun e w' => ∃ (v : Value) (l : List Int), e = .returned v ∧ l.length ≤ 400 ∧ NewInts w.heap.size w' v l ∧ Below w.heap.size w w' := by
  have HS : Hid (Src w.heap.size w a len) := hs
  clear hs
  have hi := info_int
  obtain ⟨i0, hq, z1, z2, z3⟩ : ∃ i0, Tryd.prog.info? 3 = some i0 ∧ i0.zero = some (.int .i64 0) ∧ i0.size = 1 ∧ i0.bytes = 8 := by
    cases hq : Tryd.prog.info? 3 with
    | none => rw [hq] at hi; cases hi
    | some i => rw [hq] at hi; simp at hi; exact ⟨i, rfl, hi.1, hi.2.1, hi.2.2⟩
  clear hi
  go_enter Tryd.func43, Tryd.ntmps43
  go_wp2_with fail
  refine (new_spec HS.out hb20).mono ?_
  rintro e w1 ⟨g, rfl, hb, hd⟩
  have HB1 : Hid (Below w.heap.size w w1) := hb
  have HD1 : Hid (DrawOk w.heap.size g w1) := hd
  have hg1 := hd.lt
  have hw1 := hb.size
  clear hb hd
  go_wp2_with fail
  generalize hW : World.alloc w1 (.cells #[] 3) = w2
  have HB2 : Hid (But g w1 w2) := by rw [← hW]; exact (But.refl g w1).alloc _
  have HD2 : Hid (DrawOk w.heap.size g w2) := by rw [← hW]; exact HD1.out.alloc _
  have HN2 : Hid (NewInts w1.heap.size w2 (.slice (some ⟨w1.heap.size, 0, none⟩) 0 0) []) := by rw [← hW]; exact newInts_alloc w1 [] (Nat.le_refl _) (by simp)
  clear hW
  go_loopw [4, 5] (fun v q w' => ∃ (k : Nat) (m : List Int), k ≤ 9 ∧ q = .int .i64 k ∧ m.length = k ∧ NewInts w1.heap.size w' v m ∧ But g w1 w' ∧ DrawOk w.heap.size g w') (fun _ q _ => 9 - (intOf q).toNat)
  case atStart => exact ⟨0, [], by omega, rfl, rfl, HN2.out, HB2.out, HD2.out⟩
  case round =>
    obtain ⟨k, m, hk, rfl, hm, hn', hb, hd⟩ := hrel
    have HM : Hid (m.length = k) := hm
    have HNq : Hid (NewInts w1.heap.size wr u4 m) := hn'
    have HBq : Hid (But g w1 wr) := hb
    have HDq : Hid (DrawOk w.heap.size g wr) := hd
    have hsq := hb.size
    clear hm hn' hb hd
    go_wp2_with fail
    refine (below_small HDq.out 9 (by decide) (by decide)).mono ?_
    rintro e wq ⟨y, y1, y2, rfl, hb, hd⟩
    obtain ⟨n, rfl⟩ : ∃ n : Nat, y = n := ⟨y.toNat, by omega⟩
    have HNr : Hid (NewInts w1.heap.size wq u4 m) := HNq.out.but hb hg1
    have HBr : Hid (But g w1 wq) := HBq.out.trans hb
    have HDr : Hid (DrawOk w.heap.size g wq) := hd
    have hsr := HBr.out.size
    clear hb hd HNq HBq HDq
    by_cases hc : (k : Int) < (n : Int)
    · go_wp2_with fail
      refine (num_spec HDr.out).mono ?_
      rintro e w3 ⟨z, rfl, hb, hd⟩
      have HB3 : Hid (But g w1 w3) := HBr.out.trans hb
      have HD3 : Hid (DrawOk w.heap.size g w3) := hd
      have HN3 : Hid (NewInts w1.heap.size w3 u4 m) := HNr.out.but hb hg1
      have hs3 := HB3.out.size
      have hml := HM.out
      clear hb hd
      go_wp2_with (at_builtin; refine wpList_append_own _ rfl _ _ 24 rfl w1.heap.size 3 i0 (.int .i64 0) 1 8 Tryd.underlying24 hq z1 z2 z3 rfl (by decide) _ _ _ rfl (World.ownsRow.alloc HN3.out _) ⟨w3.heap.size, 0, none⟩ 1 1 [.int .i64 z] rfl rfl ?c1 ?c2 ?c3 ?c4 ?c5 ?_)
      case c1 =>
        intro j u hj
        match j, hj with
        | 0, hj => simp at hj; subst hj; simp [Addr.add]
      case c2 => intro u hu; simp at hu; subst hu; rfl
      case c3 => unfold maxLen; omega
      case c4 => omega
      case c5 => simp; omega
      intro v' w4 hown hgrow _
      have hrow := HN3.out.row
      have HN4 : Hid (NewInts w1.heap.size w4 v' (m ++ [z])) := by
        show World.ownsRow _ _ _ _ _ _ _
        simpa [hml] using hown
      have HB4 : Hid (But g w1 w4) := (HB3.out.alloc _).grown hgrow hrow
      have HD4 : Hid (DrawOk w.heap.size g w4) := (HD3.out.alloc _).grown hgrow (fun k e => by have := hrow k e; omega)
      clear hown hgrow hrow hml
      go_wp2
      go_roundw
      case rel => exact ⟨k + 1, m ++ [z], by omega, by go_num, by have := HM.out; simp; omega, HN4.out, HB4.out, HD4.out⟩
      case measure => simp [intOf]; omega
    · have ML : Hid (m.length ≤ 9) := by have := HM.out; show _ ≤ _; omega
      go_wp2_with fail
      refine (once_spec HDr.out 15 (by decide) (by decide)).mono ?_
      rintro e w3 ⟨b, rfl, hb, hd⟩
      have HB3 : Hid (But g w1 w3) := HBr.out.trans hb
      have HD3 : Hid (DrawOk w.heap.size g w3) := hd
      have HN3 : Hid (NewInts w1.heap.size w3 u4 m) := HNr.out.but hb hg1
      clear hb hd HNr HBr HDr
      have hs3 := HB3.out.size
      cases b
      case' false =>
        have HNX : Hid (NewInts w1.heap.size w3 u4 m) := HN3.out
        have HBX : Hid (But g w1 w3) := HB3.out
        have HDX : Hid (DrawOk w.heap.size g w3) := HD3.out
        have LX : Hid (m.length ≤ 10) := by have := ML.out; show _ ≤ _; omega
        clear HN3 HB3 HD3
      case' true =>
        go_wp2_with fail
        refine (raw_spec HD3.out).mono ?_
        rintro e w4 ⟨z, rfl, hb, hd⟩
        have HB4 : Hid (But g w1 w4) := HB3.out.trans hb
        have HD4 : Hid (DrawOk w.heap.size g w4) := hd
        have HN4 : Hid (NewInts w1.heap.size w4 u4 m) := HN3.out.but hb hg1
        have hs4 := HB4.out.size
        have hml := ML.out
        clear hb hd HN3 HB3 HD3
        go_wp2_with (at_builtin; refine wpList_append_own _ rfl _ _ 24 rfl w1.heap.size 3 i0 (.int .i64 0) 1 8 Tryd.underlying24 hq z1 z2 z3 rfl (by decide) _ _ _ rfl (World.ownsRow.alloc HN4.out _) ⟨w4.heap.size, 0, none⟩ 1 1 [.int .i64 z] rfl rfl ?c1 ?c2 ?c3 ?c4 ?c5 ?_)
        case c1 =>
          intro j u hj
          match j, hj with
          | 0, hj => simp at hj; subst hj; simp [Addr.add]
        case c2 => intro u hu; simp at hu; subst hu; rfl
        case c3 => unfold maxLen; omega
        case c4 => omega
        case c5 => simp; omega
        intro v' w5 hown hgrow _
        have hrow := HN4.out.row
        have HNX : Hid (NewInts w1.heap.size w5 v' (m ++ [z])) := by
          show World.ownsRow _ _ _ _ _ _ _
          simpa using hown
        have HBX : Hid (But g w1 w5) := (HB4.out.alloc _).grown hgrow hrow
        have HDX : Hid (DrawOk w.heap.size g w5) := (HD4.out.alloc _).grown hgrow (fun k e => by have := hrow k e; omega)
        have LX : Hid ((m ++ [z]).length ≤ 10) := by have := ML.out; show _ ≤ _; simp; omega
        clear hown hgrow hrow hml HN4 HB4 HD4
      all_goals
        have HT6 : Hid (Below w.heap.size w _) := HB1.out.trans (HBX.out.below HD1.out.1 HB1.out.size)
        go_wp2
        go_ret
        exact ⟨_, _, rfl, by have := LX.out; omega, HNX.out.mono hw1, HT6.out⟩
set_option maxRecDepth 20000 in
set_option maxHeartbeats 1000000 in
theorem drawWide_spec {w : World} {a : Option Addr} {len cap : Nat} (hs : Src w.heap.size w a len) (hb20 : len ≤ 1048576) :
    Calls Tryd.prog 25 #[.slice a len cap] w fun e w' => ∃ (v : Value) (l : List Int), e = .returned v ∧ l.length ≤ 400 ∧ NewInts w.heap.size w' v l ∧ Below w.heap.size w w' := by
  have HS : Hid (Src w.heap.size w a len) := hs
  clear hs
  go_enter Tryd.func25, Tryd.ntmps25
  go_wp2_with fail
  refine (list16_spec HS.out hb20).mono ?_
  rintro e w1 ⟨v, l, rfl, hl, hn, hb⟩
  have HN : Hid (NewInts w.heap.size w1 v l) := hn
  have HB : Hid (Below w.heap.size w w1) := hb
  clear hn hb
  go_wp2
  go_ret
  exact ⟨_, l, rfl, hl, HN.out, HB.out⟩
end Go.Proofs.YtdcemlghnoecnaaDoor
