/-
  Several walks, one behind the other: ImplMake3, Pair5, ImplMake4, NeutralI, ImplRed4, OuterM, CountF, ImplMake2, SpecMake1.
-/
import Derived.Test.YtcpgdhffemecbaaZ1
import Derived.Shelf.Abstract
import Derived.Test.YtcpgdhffemecbaaRows
import Derived.Test.YtcpgdhffemecbaaMath
import Derived.WalkKit
import Derived.WalkSpells
import Derived.WalkLawsBesides
import Derived.Test.YtcpgdhffemecbaaMakeM
import Derived.Test.YtcpgdhffemecbaaEachM
import Derived.Test.YtcpgdhffemecbaaLaw3
namespace Go.Proofs.Ytcpgdhffemecbaa
open Go.RowKit
set_option linter.unusedVariables false
set_option linter.unusedSimpArgs false
/-- The first k of n places are filled, again and again. -/
def againTo (e : List Int) (n k : Nat) : List Int := (List.range n).map fun i => if i < k then e.getD (i % e.length) 0 else 0
theorem againTo_zero (e : List Int) (n : Nat) : againTo e n 0 = List.replicate n 0 := by
  unfold againTo
  apply List.ext_getElem
  · simp
  · intro i h1 h2; simp
theorem againTo_all {e : List Int} (h : e ≠ []) (n : Nat) : againTo e n n = againD e n := by
  unfold againTo againD
  apply List.map_congr_left
  intro i hi
  rw [if_pos (by simpa using hi), if_neg h]
theorem againD_nil (n : Nat) : againD [] n = List.replicate n 0 := by
  unfold againD
  apply List.ext_getElem
  · simp
  · intro i h1 h2; simp
theorem againTo_length (e : List Int) (n k : Nat) : (againTo e n k).length = n := by simp [againTo]
theorem againTo_at (e : List Int) {n k i : Nat} (hi : i < n) : (againTo e n k).getD i 0 = if i < k then e.getD (i % e.length) 0 else 0 := by
  unfold againTo
  simp [hi]
theorem paste_again {e : List Int} {n k m : Nat} (hk : k % e.length = 0) (hm : m ≤ e.length) (hn : k + m ≤ n) : paste (againTo e n k) k e m = againTo e n (k + m) := by
  apply List.ext_getElem
  · rw [paste_length (by rw [againTo_length]; exact hn) hm, againTo_length, againTo_length]
  · intro i h1 h2
    have hi : i < n := by rwa [againTo_length] at h2
    have q := paste_at (l := againTo e n k) (e := e) (k := k) (m := m) (by rw [againTo_length]; exact hn) hm i
    rw [againTo_at e hi] at q
    have r := againTo_at e (k := k + m) hi
    simp only [List.getD_eq_getElem?_getD] at q r
    rw [List.getElem?_eq_getElem h1] at q
    rw [List.getElem?_eq_getElem h2] at r
    simp only [Option.getD_some] at q r
    rw [q, r]
    by_cases c1 : i < k
    · rw [if_pos c1, if_pos c1, if_pos (by omega)]
    · rw [if_neg c1, if_neg c1]
      by_cases c2 : i < k + m
      · rw [if_pos c2, if_pos c2]
        have : i % e.length = i - k := by
          have e1 : i = k + (i - k) := by omega
          conv => lhs; rw [e1]
          rw [Nat.add_mod, hk, Nat.zero_add, Nat.mod_mod, Nat.mod_eq_of_lt (by omega)]
        rw [this]
      · rw [if_neg c2, if_neg c2]
set_option maxRecDepth 20000 in
set_option maxHeartbeats 2000000 in
/-- againAndAgain. -/
theorem again_impl {e : List Int} {a : Option Addr} {w : World} {n c : Nat} (h : Ints w a e) (he : e.length ≤ 1048576) (hn : n ≤ 1048576) :
    Calls Try.prog 127 #[.slice a e.length c, .int .i64 (n : Int)] w fun r w' => r = .returned (.slice (some ⟨w.heap.size, 0, none⟩) n n) ∧ OwnInts w' w.heap.size (againD e n) ∧ Below w.heap.size w w' := by
  have hmk : ∀ w, (Instr.makeSlice 24 (.int .i64 (n : Int)) (.int .i64 (n : Int))).run Try.prog w = .ok (.slice (some ⟨w.heap.size, 0, none⟩) n n) (w.alloc (.cells (vals (List.replicate n 0)) 3)) := fun w => make_ints n (by omega) w
  obtain ⟨D, hD⟩ : ∃ D, D = againD e n := ⟨_, rfl⟩
  rw [← hD]
  by_cases h0 : e = []
  · have ED : Hid (D = List.replicate n 0) := by show _ = _; rw [hD, h0, againD_nil]
    subst h0
    clear hD
    simp only [List.length_nil]
    go_enter Try.func127, Try.ntmps127
    go_wp2
    go_ret
    refine ⟨rfl, ?_, bAlloc (Below.refl _ _) _⟩
    rw [ED.out]
    exact ownInts_new _ _
  · have ED : Hid (D = againTo e n n) := by show _ = _; rw [hD, againTo_all h0]
    have hl : 0 < e.length := by cases e with | nil => exact absurd rfl h0 | cons _ _ => simp
    have hne : ((e.length : Int) == 0) = false := by simp; exact h0
    have HI : Hid (Ints w a e) := h
    have HP : Hid (∀ k m, k % e.length = 0 → m ≤ e.length → k + m ≤ n → paste (againTo e n k) k e m = againTo e n (k + m)) := fun k m a b c => paste_again a b c
    have HCP : Hid (∀ W g l k r dC, Below w.heap.size w W → OwnInts W g l → k + min e.length r ≤ l.length → (Builtin.copy_ #[24, 24] 3 #[.slice (some ⟨g, k, none⟩) r dC, .slice a e.length c]).run Try.prog W = .ok (.int .i64 ((min e.length r : Nat) : Int)) (W.setRow g (vals (paste l k e (min e.length r))))) := fun W g l k r dC hb ho hf => copy_paste ho (HI.out.keep hb) hf _ dC c
    clear hD h0 h he
    generalize e.length = p at *
    go_enter Try.func127, Try.ntmps127
    go_wp2
    go_loopw [6] (fun i w' => ∃ (k r : Nat) (A : Option Addr), k + r = n ∧ i = .slice A r r ∧ (0 < r → A = some ⟨w.heap.size, k, none⟩ ∧ k % p = 0) ∧ OwnInts w' w.heap.size (againTo e n k) ∧ Below w.heap.size w w') (fun i _ => match i with | .slice _ r _ => r | _ => 0)
    case atStart => exact ⟨0, n, _, by omega, rfl, fun _ => ⟨rfl, by simp⟩, by rw [againTo_zero]; exact ownInts_new _ _, bAlloc (Below.refl _ _) _⟩
    case round =>
      obtain ⟨k, r, A, hkr, rfl, hA, hO, hb⟩ := hrel
      have HK : Hid (k + r = n) := hkr
      have HO : Hid (OwnInts wr w.heap.size (againTo e n k)) := hO
      have HB : Hid (Below w.heap.size w wr) := hb
      by_cases hlt : (0 : Int) < (r : Int)
      · obtain ⟨rfl, hk⟩ := hA (by omega)
        have hcp := HCP.out wr w.heap.size (againTo e n k) k r r hb hO (by rw [againTo_length]; omega)
        rw [HP.out k (min p r) hk (by omega) (by omega)] at hcp
        have HM : Hid (min p r ≤ r ∧ 0 < min p r ∧ (0 < r - min p r → (k + min p r) % p = 0)) := ⟨by omega, by omega, fun h => by
          have : min p r = p := by omega
          rw [this, Nat.add_mod_right, hk]⟩
        generalize min p r = m at *
        have hsl := fun W => run_from (a := some ⟨w.heap.size, k, none⟩) (n := r) (c := r) (M := m) HM.out.1 (Nat.le_refl _) W
        have HO' : Hid (OwnInts (wr.setRow w.heap.size (vals (againTo e n (k + m)))) w.heap.size (againTo e n (k + m))) := hO.setRow _
        have HB' : Hid (Below w.heap.size w (wr.setRow w.heap.size (vals (againTo e n (k + m))))) := below_setRow hb (Nat.le_refl _) _
        clear hA hO hb hkr hk
        generalize hW : wr.setRow w.heap.size (vals (againTo e n (k + m))) = W at *
        clear hW
        go_wp2
        go_roundw
        case rel => exact ⟨k + m, r - m, _, by have := HK.out; have := HM.out; omega, rfl, fun h => ⟨by rw [if_neg (by omega)]; first | done | simp [Addr.add], HM.out.2.2 h⟩, HO'.out, HB'.out⟩
        case measure => have := HM.out; show r - m < r; omega
      · obtain rfl : r = 0 := by omega
        obtain rfl : k = n := by omega
        clear hA hO hb hkr
        go_wp2
        go_ret
        exact ⟨rfl, by rw [ED.out]; exact HO.out, HB.out⟩
/-- belowNought. -/
theorem belowN_impl (x : Int) (w : World) : Calls Try.prog 126 #[.int .i64 x] w fun r w' => r = .returned (.bool (decide (x < 0))) ∧ w' = w := by
  by_cases h : x < 0
  all_goals
    go_enter Try.func126, Try.ntmps126
    go_wp2
    go_ret
    exact ⟨by simp [h], rfl⟩
set_option maxRecDepth 20000 in
set_option maxHeartbeats 2000000 in
/-- slices.IndexFunc over belowNought: where there is one below nought. -/
theorem indexBelow_impl {l : List Int} {a : Option Addr} {w : World} {c : Nat} (h : Ints w a l) (hl : l.length ≤ 1048576) :
    Calls Try.prog 130 #[.slice a l.length c, .func (.func 126) #[] #[]] w fun r w' => ∃ x : Int, r = .returned (.int .i64 x) ∧ (decide (0 ≤ x) = l.any fun x => decide (x < 0)) ∧ w' = w := by
  have HI : Hid (Ints w a l) := h
  have hE : ∀ (args : Array Value) (w : World), (callFunc 126 args).run Try.prog w = .ok (.enter 126 args) w := enters_of Try.func126 (by kernel_rfl) rfl
  clear h
  go_enter Try.func130, Try.ntmps130
  go_wp2
  go_loopw [8] (fun i w' => ∃ k : Nat, k ≤ l.length ∧ i = .int .i64 (k : Int) ∧ ((l.take k).any fun x => decide (x < 0)) = false ∧ w' = w) (fun i _ => l.length - (intOf i).toNat)
  case atStart => exact ⟨0, by omega, rfl, by simp, rfl⟩
  case round =>
    obtain ⟨k, hk, rfl, ht, rfl⟩ := hrel
    have HT : Hid (((l.take k).any fun x => decide (x < 0)) = false) := ht
    clear ht
    by_cases hlt : (k : Int) < (l.length : Int)
    · have L : k < l.length := by omega
      obtain ⟨b1, o1, rfl, _, c1⟩ := HI.out.at L
      have Q : Hid (((l.take (k + 1)).any fun x => decide (x < 0)) = (((l.take k).any fun x => decide (x < 0)) || decide (l.getD k 0 < 0))) := by show _ = _; rw [take_snoc L]; simp
      have QB : Hid (l.getD k 0 < 0 → (l.any fun x => decide (x < 0)) = true) := fun h => by
        rw [List.any_eq_true]
        exact ⟨l.getD k 0, by simp [L], by simpa using h⟩
      clear L
      generalize l.getD k 0 = x at c1 Q QB
      by_cases hx : x < 0
      · have QB' : Hid ((l.any fun x => decide (x < 0)) = true) := QB.out hx
        clear Q QB
        have hd : decide (x < 0) = true := by simp [hx]
        go_wp2_with (go_at_fn 126; refine (belowN_impl x _).mono ?_; rintro r w2 ⟨rfl, hw⟩; subst w2; rw [hd])
        go_ret
        exact ⟨_, rfl, by rw [QB'.out]; simp, rfl⟩
      · have HT' : Hid (((l.take (k + 1)).any fun x => decide (x < 0)) = false) := by show _ = _; rw [Q.out, HT.out]; simpa using hx
        clear Q QB
        have hd : decide (x < 0) = false := by simpa using hx
        go_wp2_with (go_at_fn 126; refine (belowN_impl x _).mono ?_; rintro r w2 ⟨rfl, hw⟩; subst w2; rw [hd])
        go_roundw
        case rel => exact ⟨k + 1, by omega, by go_num, HT'.out, by first | trivial | rfl⟩
        case measure => simp [intOf]; omega
    · have HV : Hid ((l.any fun x => decide (x < 0)) = false) := by
        have h := HT.out
        show _ = _
        rw [List.take_of_length_le (by omega)] at h
        exact h
      go_wp2
      go_ret
      exact ⟨_, rfl, by rw [HV.out]; rfl, rfl⟩
set_option maxRecDepth 20000 in
set_option maxHeartbeats 2000000 in
/-- slices.ContainsFunc over belowNought. -/
theorem containsBelow_impl {l : List Int} {a : Option Addr} {w : World} {c : Nat} (h : Ints w a l) (hl : l.length ≤ 1048576) :
    Calls Try.prog 125 #[.slice a l.length c, .func (.func 126) #[] #[]] w fun r w' => r = .returned (.bool (l.any fun x => decide (x < 0))) ∧ w' = w := by
  have HC : Hid (Calls Try.prog 130 #[.slice a l.length c, .func (.func 126) #[] #[]] w fun r w' => ∃ x : Int, r = .returned (.int .i64 x) ∧ (decide (0 ≤ x) = l.any fun x => decide (x < 0)) ∧ w' = w) := indexBelow_impl h hl
  clear h
  generalize (l.any fun x => decide (x < 0)) = q at *
  go_enter Try.func125, Try.ntmps125
  go_wp2_with fail
  refine HC.out.mono ?_
  rintro r w1 ⟨x, rfl, hx, rfl⟩
  clear HC
  by_cases h0 : (0 : Int) ≤ x
  · have E : Hid (q = true) := by show _ = _; rw [← hx]; simpa using h0
    clear hx
    go_wp2
    go_ret
    exact ⟨by rw [E.out]; simp [h0], rfl⟩
  · have E : Hid (q = false) := by show _ = _; rw [← hx]; simpa using h0
    clear hx
    go_wp2
    go_ret
    exact ⟨by rw [E.out]; simp [h0], rfl⟩
end Go.Proofs.Ytcpgdhffemecbaa
namespace Go.Proofs.Ytcpgdhffemecbaa
open Go.RowKit
set_option linter.unusedVariables false
set_option linter.unusedSimpArgs false
theorem arrs_one5 {W : World} {o : Nat} {x y : Value} {t : TypeId} {s d : List Int} (hb : Box W o x y t) (h : ArrI W (.agg #[x, y]) s d) : ArrsI W (.slice (some ⟨o, 0, none⟩) 1 1) [s, d] := by
  obtain ⟨a, c, b, e, e', i1, i2, g1, g2⟩ := h
  obtain ⟨rfl, rfl⟩ : x = .slice a s.length c ∧ y = .slice b d.length e := by cases e'; exact ⟨rfl, rfl⟩
  refine ⟨_, 1, 1, rfl, rfl, .inr ⟨o, 0, [.slice a s.length c, .slice b d.length e], rfl, hb.lt, rfl, fun j hj => ?_⟩⟩
  match j, hj with
  | 0, _ => exact ⟨hb.c0, a, c, rfl, g1, i1⟩
  | 1, _ => exact ⟨hb.c1, b, e, rfl, g2, i2⟩
theorem arrs_two5 {W : World} {o : Nat} {x y x' y' : Value} {t : TypeId} {s d s' d' : List Int} (hb : W.heap[o]? = some (.cells #[x, y, x', y'] t (0, 0))) (h : ArrI W (.agg #[x, y]) s d) (k : ArrI W (.agg #[x', y']) s' d') : ArrsI W (.slice (some ⟨o, 0, none⟩) 2 2) [s, d, s', d'] := by
  obtain ⟨a, c, b, e, e', i1, i2, g1, g2⟩ := h
  obtain ⟨rfl, rfl⟩ : x = .slice a s.length c ∧ y = .slice b d.length e := by cases e'; exact ⟨rfl, rfl⟩
  obtain ⟨a', c', b', f', e', i3, i4, g3, g4⟩ := k
  obtain ⟨rfl, rfl⟩ : x' = .slice a' s'.length c' ∧ y' = .slice b' d'.length f' := by cases e'; exact ⟨rfl, rfl⟩
  refine ⟨_, 2, 2, rfl, rfl, .inr ⟨o, 0, [.slice a s.length c, .slice b d.length e, .slice a' s'.length c', .slice b' d'.length f'], rfl, lt_of_heapA hb, rfl, fun j hj => ?_⟩⟩
  match j, hj with
  | 0, _ => exact ⟨cell_at hb rfl, a, c, rfl, g1, i1⟩
  | 1, _ => exact ⟨cell_at hb rfl, b, e, rfl, g2, i2⟩
  | 2, _ => exact ⟨cell_at hb rfl, a', c', rfl, g3, i3⟩
  | 3, _ => exact ⟨cell_at hb rfl, b', f', rfl, g4, i4⟩
theorem four5 (w : World) (A B C D : Obj) :
    ((((w.alloc A).alloc B).alloc C).alloc D).heap[w.heap.size]? = some A ∧ ((((w.alloc A).alloc B).alloc C).alloc D).heap[w.heap.size + 1]? = some B ∧ ((((w.alloc A).alloc B).alloc C).alloc D).heap[w.heap.size + 1 + 1]? = some C ∧ ((((w.alloc A).alloc B).alloc C).alloc D).heap[w.heap.size + 1 + 1 + 1]? = some D := by
  have e1 := heap_alloc_new w A
  have e2 := heap_alloc_new (w.alloc A) B
  have e3 := heap_alloc_new ((w.alloc A).alloc B) C
  have e4 := heap_alloc_new (((w.alloc A).alloc B).alloc C) D
  simp only [World.size_alloc] at e2 e3 e4
  refine ⟨?_, ?_, ?_, e4⟩
  · rw [heap_alloc_old _ _ (by simp only [World.size_alloc]; omega), heap_alloc_old _ _ (by simp only [World.size_alloc]; omega), heap_alloc_old _ _ (by simp only [World.size_alloc]; omega)]; exact e1
  · rw [heap_alloc_old _ _ (by simp only [World.size_alloc]; omega), heap_alloc_old _ _ (by simp only [World.size_alloc]; omega)]; exact e2
  · rw [heap_alloc_old _ _ (by simp only [World.size_alloc]; omega)]; exact e3
theorem allOkV_two (s d t e : List Int) : allOkV [s, d, t, e] 2 = (arrOk s d && arrOk t e) := by simp [allOkV, List.range_succ]
theorem allOkV_one (t e : List Int) : allOkV [t, e] 1 = arrOk t e := by simp [allOkV, List.range_succ]
theorem allOk2_impl {s d t e : List Int} {W : World} {o : Nat} {x y x' y' : Value} (h : ArrI W (.agg #[x, y]) s d) (k : ArrI W (.agg #[x', y']) t e) (hs : s.length ≤ 1048576) (hd : d.length ≤ 1048576) (ht : t.length ≤ 1048576) (he : e.length ≤ 1048576) {T : TypeId} (ho : W.heap[o]? = some (.cells #[x, y, x', y'] T (0, 0))) :
    Calls Try.prog 49 #[.slice (some ⟨o, 0, none⟩) 2 2] W fun r w' => r = .returned (.bool (arrOk s d && arrOk t e)) ∧ Below W.heap.size W w' := by
  rw [← allOkV_two]
  refine allOk_impl (arrs_two5 ho h k) (by decide) (fun j => ?_)
  match j with
  | 0 => exact hs
  | 1 => exact hd
  | 2 => exact ht
  | 3 => exact he
  | j + 4 => simp
theorem sole2_impl {s d t e : List Int} {W : World} {o : Nat} {x' y' v : Value} (h : ArrI W v s d) (k : ArrI W (.agg #[x', y']) t e) (hd : d.length ≤ 1048576) (ht : t.length ≤ 1048576) (he : e.length ≤ 1048576) {T : TypeId} (ho : Box W o x' y' T) :
    Calls Try.prog 71 #[v, .slice (some ⟨o, 0, none⟩) 1 1] W fun r w' => r = .returned (.tuple #[.int .i64 (soleV s d (arrOk t e)), .int .i64 (oneC s d t e)]) ∧ Below W.heap.size W w' := by
  have q := sole_impl h hd (arrs_one5 ho k) (by decide) (fun j => by
    match j with
    | 0 => exact ht
    | 1 => exact he
    | j + 2 => simp)
  rw [allOkV_one] at q
  exact q
end Go.Proofs.Ytcpgdhffemecbaa
namespace Go.Proofs.Ytcpgdhffemecbaa
open Go.RowKit
set_option linter.unusedVariables false
set_option linter.unusedSimpArgs false
theorem againD_length (e : List Int) (n : Nat) : (againD e n).length = n := by simp [againD]
set_option maxRecDepth 20000 in
set_option maxHeartbeats 4000000 in
/-- Reshape. -/
theorem reshape_impl {s d t e : List Int} {w : World} {v u : Value} (h : ArrI w v s d) (k : ArrI w u t e) (hs : s.length ≤ 1048576) (hd : d.length ≤ 1048576) (ht : t.length ≤ 1048576) (he : e.length ≤ 1048576) :
    Calls Try.prog 116 #[v, u] w fun r w' => ∃ v', r = .returned (.tuple #[v', .int .i64 (reshapeR s d t e).1]) ∧ Arr w.heap.size w'.heap.size w' v' (reshapeR s d t e).2.1 (reshapeR s d t e).2.2 ∧ Below w.heap.size w w' := by
  have H : Hid (ArrI w v s d) := h
  have K : Hid (ArrI w u t e) := k
  obtain ⟨a, c, b, f, rfl, h1, h2, g1, g2⟩ := h
  obtain ⟨a', c', b', f', rfl, k1, k2, g3, g4⟩ := k
  have HOK : Hid (∀ (W : World) (o : Nat), Below w.heap.size w W → W.heap[o]? = some (.cells #[.slice a s.length c, .slice b d.length f, .slice a' t.length c', .slice b' e.length f'] 26 (0, 0)) → Calls Try.prog 49 #[.slice (some ⟨o, 0, none⟩) 2 2] W fun r w' => r = .returned (.bool (arrOk s d && arrOk t e)) ∧ Below W.heap.size W w') := fun W o hb ho => allOk2_impl (H.out.keep hb) (K.out.keep hb) hs hd ht he ho
  have HCF : Hid (∀ W, Below w.heap.size w W → Calls Try.prog 125 #[.slice b d.length f, .func (.func 126) #[] #[]] W fun r w' => r = .returned (.bool (d.any fun x => decide (x < 0))) ∧ w' = W) := fun W hb => containsBelow_impl (h2.keep hb) hd
  have HSO : Hid (∀ W, Below w.heap.size w W → Calls Try.prog 51 #[.slice b d.length f] W fun r w' => r = .returned (.bool (decide (0 ≤ sizeV d))) ∧ Below W.heap.size W w') := fun W hb => ok_impl f (h2.keep hb)
  have HCL : Hid (∀ W, Below w.heap.size w W → Calls Try.prog 62 #[.slice b d.length f] W fun r w' => ∃ a' c', r = .returned (.slice a' d.length c') ∧ Piece W.heap.size w'.heap.size w' (.slice a' d.length c') d ∧ Below W.heap.size W w') := fun W hb => copied_new (IntsI.keep ⟨b, f, rfl, g2, h2⟩ hb) hd
  have HSZ : Hid (∀ W, Below w.heap.size w W → Calls Try.prog 60 #[.slice b d.length f] W fun r w' => r = .returned (.int .i64 (sizeV d)) ∧ Below W.heap.size W w') := fun W hb => size_impl f (h2.keep hb)
  have HAG : Hid (0 ≤ sizeV d → ∀ W, Below w.heap.size w W → Calls Try.prog 127 #[.slice b' e.length f', .int .i64 (sizeV d)] W fun r w' => ∃ a' c', r = .returned (.slice a' (againD e (sizeV d).toNat).length c') ∧ Piece W.heap.size w'.heap.size w' (.slice a' (againD e (sizeV d).toNat).length c') (againD e (sizeV d).toNat) ∧ Below W.heap.size W w') := fun h0 W hb => by
    have hz := sizeV_bd d
    have q := again_impl (c := f') (n := (sizeV d).toNat) (k2.keep hb) he (by omega)
    rw [Int.toNat_of_nonneg h0] at q
    refine q.mono ?_
    rintro r w' ⟨rfl, ho, hb'⟩
    refine ⟨some ⟨W.heap.size, 0, none⟩, (sizeV d).toNat, by rw [againD_length], ?_, hb'⟩
    exact OwnInts.piece ho (Nat.le_refl _) (lt_of_heapA ho) _ (by rw [againD_length]; exact Nat.le_refl _)
  obtain ⟨x, hx⟩ : ∃ x, x = (reshapeR s d t e).1 := ⟨_, rfl⟩
  obtain ⟨S, hS⟩ : ∃ S, S = (reshapeR s d t e).2.1 := ⟨_, rfl⟩
  obtain ⟨D, hD⟩ : ∃ D, D = (reshapeR s d t e).2.2 := ⟨_, rfl⟩
  rw [← hx, ← hS, ← hD]
  have E1 : Hid ((arrOk s d && arrOk t e) = false → x = 1 ∧ S = [] ∧ D = []) := fun h => by
    rw [hx, hS, hD]; unfold reshapeR reshapeC; rw [if_neg (by intro q; rw [q.1, q.2] at h; cases h), mkR_bad (by decide)]; exact ⟨rfl, rfl, rfl⟩
  have E2 : Hid ((arrOk s d && arrOk t e) = true → 1 < s.length → x = 4 ∧ S = [] ∧ D = []) := fun h h1 => by
    rw [hx, hS, hD]; unfold reshapeR reshapeC; rw [if_pos (by simpa using h), if_pos h1, mkR_bad (by decide)]; exact ⟨rfl, rfl, rfl⟩
  have E3 : Hid ((arrOk s d && arrOk t e) = true → ¬ 1 < s.length → (d.any fun x => decide (x < 0)) = true → x = 2 ∧ S = [] ∧ D = []) := fun h h1 h2 => by
    rw [hx, hS, hD]; unfold reshapeR reshapeC; rw [if_pos (by simpa using h), if_neg h1, if_pos h2, mkR_bad (by decide)]; exact ⟨rfl, rfl, rfl⟩
  have E4 : Hid ((arrOk s d && arrOk t e) = true → ¬ 1 < s.length → (d.any fun x => decide (x < 0)) = false → sizeV d < 0 → x = 6 ∧ S = [] ∧ D = []) := fun h h1 h2 h3 => by
    rw [hx, hS, hD]; unfold reshapeR reshapeC; rw [if_pos (by simpa using h), if_neg h1, if_neg (by rw [h2]; simp), if_pos h3, mkR_bad (by decide)]; exact ⟨rfl, rfl, rfl⟩
  have E5 : Hid ((arrOk s d && arrOk t e) = true → ¬ 1 < s.length → (d.any fun x => decide (x < 0)) = false → 0 ≤ sizeV d → x = 0 ∧ S = d ∧ D = againD e (sizeV d).toNat) := fun h h1 h2 h3 => by
    rw [hx, hS, hD]; unfold reshapeR reshapeC; rw [if_pos (by simpa using h), if_neg h1, if_neg (by rw [h2]; simp), if_neg (by omega), mkR_good]; exact ⟨rfl, rfl, rfl⟩
  clear hx hS hD hs hd ht he h1 h2 k1 k2 g1 g2 g3 g4
  generalize (arrOk s d && arrOk t e) = q at *
  generalize (d.any fun x => decide (x < 0)) = m at *
  generalize againD e (sizeV d).toNat = A at *
  generalize sizeV d = z at *
  go_enter Try.func116, Try.ntmps116
  go_wp2_with fail
  refine (HOK.out _ _ (bAlloc (bAlloc (bAlloc (bAlloc (Below.refl _ _) _) _) _) _) (by exact (four5 w _ _ _ _).2.2.2)).mono ?_
  rintro r w1 ⟨rfl, hb⟩
  have q4 := four5 w (.cells #[.slice a s.length c, .slice b d.length f] 26) (.cells #[.slice a' t.length c', .slice b' e.length f'] 26) (.cells #[.slice none 0 0, .slice none 0 0] 26) (.cells #[.slice a s.length c, .slice b d.length f, .slice a' t.length c', .slice b' e.length f'] 26)
  have HB1 : Hid (Below w.heap.size w w1) := bTrans (bAlloc (bAlloc (bAlloc (bAlloc (Below.refl _ _) _) _) _) _) hb
  have X1 : Hid (Box w1 w.heap.size (.slice a s.length c) (.slice b d.length f) 26) := Box.keep q4.1 hb
  have Y1 : Hid (Box w1 (w.heap.size + 1) (.slice a' t.length c') (.slice b' e.length f') 26) := Box.keep q4.2.1 hb
  have R1 : Hid (Box w1 (w.heap.size + 1 + 1) (.slice none 0 0) (.slice none 0 0) 26) := Box.keep q4.2.2.1 hb
  clear hb q4
  cases q
  · obtain ⟨rfl, rfl, rfl⟩ := E1.out (by trivial)
    clear E1 E2 E3 E4 E5
    have y0 := R1.out.c0
    have y1 := R1.out.c1
    have f0 : w1.frozen? ⟨w.heap.size + 1 + 1, 0, none⟩ = false := free_at R1.out 0
    have f1 : w1.frozen? ⟨w.heap.size + 1 + 1, 1, none⟩ = false := free_at R1.out 1
    have HR : Hid (((w1.setCell ⟨w.heap.size + 1 + 1, 0, none⟩ (.slice none 0 0)).setCell ⟨w.heap.size + 1 + 1, 1, none⟩ (.slice none 0 0)).heap[w.heap.size + 1 + 1]? = some (.cells #[.slice none 0 0, .slice none 0 0] 26 (0, 0))) := arr_stored R1.out
    go_wp2
    refine bodyPost_ret (results_arr_tmp Try.results116 _ _ (w.heap.size + 1 + 1) _ _ rfl HR.out) rfl ?_
    exact ⟨_, rfl, arr_zero _ _ _, below_setCell (below_setCell HB1.out (by omega) _ _) (by omega) _ _⟩
  · have x0 := X1.out.c0
    by_cases hr : (1 : Int) < (s.length : Int)
    · obtain ⟨rfl, rfl, rfl⟩ := E2.out (by trivial) (by omega)
      clear E1 E2 E3 E4 E5
      have y0 := R1.out.c0
      have y1 := R1.out.c1
      have f0 : w1.frozen? ⟨w.heap.size + 1 + 1, 0, none⟩ = false := free_at R1.out 0
      have f1 : w1.frozen? ⟨w.heap.size + 1 + 1, 1, none⟩ = false := free_at R1.out 1
      have HR : Hid (((w1.setCell ⟨w.heap.size + 1 + 1, 0, none⟩ (.slice none 0 0)).setCell ⟨w.heap.size + 1 + 1, 1, none⟩ (.slice none 0 0)).heap[w.heap.size + 1 + 1]? = some (.cells #[.slice none 0 0, .slice none 0 0] 26 (0, 0))) := arr_stored R1.out
      go_wp2
      refine bodyPost_ret (results_arr_tmp Try.results116 _ _ (w.heap.size + 1 + 1) _ _ rfl HR.out) rfl ?_
      exact ⟨_, rfl, arr_zero _ _ _, below_setCell (below_setCell HB1.out (by omega) _ _) (by omega) _ _⟩
    · have x1 := X1.out.c1
      have E3' : Hid (m = true → x = 2 ∧ S = [] ∧ D = []) := E3.out (by trivial) (by omega)
      have E4' : Hid (m = false → z < 0 → x = 6 ∧ S = [] ∧ D = []) := E4.out (by trivial) (by omega)
      have E5' : Hid (m = false → 0 ≤ z → x = 0 ∧ S = d ∧ D = A) := E5.out (by trivial) (by omega)
      clear E1 E2 E3 E4 E5
      go_wp2_with fail
      refine (HCF.out _ HB1.out).mono ?_
      rintro r w2 ⟨rfl, hw⟩
      subst w2
      cases m
      · go_wp2_with fail
        refine (HSO.out _ HB1.out).mono ?_
        rintro r w2 ⟨rfl, hb⟩
        have HB2 : Hid (Below w.heap.size w w2) := bTrans HB1.out hb
        have X2 : Hid (Box w2 w.heap.size (.slice a s.length c) (.slice b d.length f) 26) := X1.out.keep hb
        have Y2 : Hid (Box w2 (w.heap.size + 1) (.slice a' t.length c') (.slice b' e.length f') 26) := Y1.out.keep hb
        have R2 : Hid (Box w2 (w.heap.size + 1 + 1) (.slice none 0 0) (.slice none 0 0) 26) := R1.out.keep hb
        clear hb x0 x1 hr
        by_cases hz : 0 ≤ z
        · obtain ⟨rfl, eS, eD⟩ := E5'.out (by trivial) hz
          have ES : Hid (S = d ∧ D = A) := ⟨eS, eD⟩
          have HAG' := HAG.out hz
          have HAH : Hid (∀ W, Below w.heap.size w W → Calls Try.prog 127 #[.slice b' e.length f', .int .i64 z] W fun r w' => ∃ a' c', r = .returned (.slice a' A.length c') ∧ Piece W.heap.size w'.heap.size w' (.slice a' A.length c') A ∧ Below W.heap.size W w') := HAG'
          have hdz : decide (0 ≤ z) = true := by simpa using hz
          clear E3' E4' E5' eS eD HAG' HAG HSO HCF HOK hz
          rw [hdz]
          have x1 := X2.out.c1
          have y1 := Y2.out.c1
          have LT : Hid (w.heap.size + 1 + 1 < w2.heap.size) := R2.out.lt
          go_wp2
          go_region_held3 (fun w' => w'.cell? ⟨w.heap.size, 1, none⟩ = some (.slice b d.length f) ∧ w'.cell? ⟨w.heap.size + 1, 1, none⟩ = some (.slice b' e.length f'))
            (first | exact ⟨z0 _ _, z1 _ _⟩ | exact ⟨q0, q1⟩ | exact ⟨p0, p1⟩ | exact ⟨v0, v1⟩ | exact ⟨x1, y1⟩)
            (first
              | (go_at_call_of 62 (Value.slice b d.length f); refine (HCL.out _ (bTrans HB2.out ((Below.refl w2.heap.size w2).drew))).mono ?_; rintro r w3 ⟨ax, cx, rfl, ha, hb⟩; have PX : Hid (Piece w2.heap.size w3.heap.size w3 (.slice ax d.length cx) d) := ha; have HB3 : Hid (Below w2.heap.size w2 w3) := bTrans ((Below.refl w2.heap.size w2).drew) hb; have v0 := (X2.out.keep HB3.out).c1; have v1 := (Y2.out.keep HB3.out).c1; clear ha hb)
              | (go_at_call_of 60 (Value.slice b d.length f); refine (HSZ.out _ (bTrans HB2.out HB3.out)).mono ?_; rintro r w4 ⟨rfl, hb⟩; have HB4 : Hid (Below w2.heap.size w2 w4) := bTrans HB3.out hb; have PX4 : Hid (Piece w2.heap.size w3.heap.size w4 (.slice ax d.length cx) d) := PX.out.keep hb; have S34 : Hid (w3.heap.size ≤ w4.heap.size) := hb.size; have p0 := (X2.out.keep HB4.out).c1; have p1 := (Y2.out.keep HB4.out).c1; clear hb)
              | (go_at_call_of 127 (Value.slice b' e.length f'); refine (HAH.out _ (bTrans HB2.out HB4.out)).mono ?_; rintro r w5 ⟨ay, cy, rfl, ha, hb⟩; have PY : Hid (Piece w4.heap.size w5.heap.size w5 (.slice ay A.length cy) A) := ha; have PX5 : Hid (Piece w2.heap.size w3.heap.size w5 (.slice ax d.length cx) d) := PX4.out.keep hb; have S45 : Hid (w4.heap.size ≤ w5.heap.size) := hb.size; have HB5 : Hid (Below w2.heap.size w2 w5) := bTrans HB4.out hb; have q0 := (X2.out.keep HB5.out).c1; have q1 := (Y2.out.keep HB5.out).c1; have r0 := (R2.out.keep HB5.out).c0; have r1 := (R2.out.keep HB5.out).c1; have f0 : w5.frozen? ⟨w.heap.size + 1 + 1, 0, none⟩ = false := free_at (R2.out.keep HB5.out) 0; have f1 : w5.frozen? ⟨w.heap.size + 1 + 1, 1, none⟩ = false := free_at (R2.out.keep HB5.out) 1; have zx : ∀ u v, Box ((w5.setCell ⟨w.heap.size + 1 + 1, 0, none⟩ u).setCell ⟨w.heap.size + 1 + 1, 1, none⟩ v) w.heap.size (.slice a s.length c) (.slice b d.length f) 26 := (fun u v => ((X2.out.keep HB5.out).win (win_setCell _ _ _ _) (.inl (by omega))).win (win_setCell _ _ _ _) (.inl (by omega))); have zy : ∀ u v, Box ((w5.setCell ⟨w.heap.size + 1 + 1, 0, none⟩ u).setCell ⟨w.heap.size + 1 + 1, 1, none⟩ v) (w.heap.size + 1) (.slice a' t.length c') (.slice b' e.length f') 26 := (fun u v => ((Y2.out.keep HB5.out).win (win_setCell _ _ _ _) (.inl (by omega))).win (win_setCell _ _ _ _) (.inl (by omega))); have z0 := (fun u v => (zx u v).c1); have z1 := (fun u v => (zy u v).c1); have HR : Hid (((w5.setCell ⟨w.heap.size + 1 + 1, 0, none⟩ (.slice ax d.length cx)).setCell ⟨w.heap.size + 1 + 1, 1, none⟩ (.slice ay A.length cy)).heap[w.heap.size + 1 + 1]? = some (.cells #[.slice ax d.length cx, .slice ay A.length cy] 26 (0, 0))) := arr_stored (R2.out.keep HB5.out); clear ha hb zx zy))
          go_wp2
          refine bodyPost_ret (results_arr_tmp Try.results116 _ _ (w.heap.size + 1 + 1) _ _ rfl HR.out) rfl ?_
          refine ⟨_, rfl, ?_, below_setCell (below_setCell (bTrans HB2.out HB5.out) (by omega) _ _) (by omega) _ _⟩
          have S1 := HB3.out.size
          have S2 := S34.out
          have S3 := S45.out
          have S4 := LT.out
          rw [ES.out.1, ES.out.2]
          have A2 : Arr w2.heap.size w5.heap.size w5 (.agg #[.slice ax d.length cx, .slice ay A.length cy]) d A := ⟨_, _, rfl, PX5.out.mono (Nat.le_refl _) (by omega), PY.out.mono (by omega) (Nat.le_refl _), PX5.out.apart PY.out (.inl (by omega))⟩
          exact ((A2.setCell S4 _ _).setCell S4 _ _).mono (by omega) (by simp [size_setCell])
        · obtain ⟨rfl, rfl, rfl⟩ := E4'.out (by trivial) (by omega)
          have hdz : decide (0 ≤ z) = false := by simpa using hz
          clear E3' E4' E5' hz
          rw [hdz]
          have y0 := R2.out.c0
          have y1 := R2.out.c1
          have f0 : w2.frozen? ⟨w.heap.size + 1 + 1, 0, none⟩ = false := free_at R2.out 0
          have f1 : w2.frozen? ⟨w.heap.size + 1 + 1, 1, none⟩ = false := free_at R2.out 1
          have HR : Hid (((w2.setCell ⟨w.heap.size + 1 + 1, 0, none⟩ (.slice none 0 0)).setCell ⟨w.heap.size + 1 + 1, 1, none⟩ (.slice none 0 0)).heap[w.heap.size + 1 + 1]? = some (.cells #[.slice none 0 0, .slice none 0 0] 26 (0, 0))) := arr_stored R2.out
          go_wp2
          refine bodyPost_ret (results_arr_tmp Try.results116 _ _ (w.heap.size + 1 + 1) _ _ rfl HR.out) rfl ?_
          exact ⟨_, rfl, arr_zero _ _ _, below_setCell (below_setCell HB2.out (by omega) _ _) (by omega) _ _⟩
      · obtain ⟨rfl, rfl, rfl⟩ := E3'.out (by trivial)
        clear E3' E4' E5' x0 x1 hr
        have y0 := R1.out.c0
        have y1 := R1.out.c1
        have f0 : w1.frozen? ⟨w.heap.size + 1 + 1, 0, none⟩ = false := free_at R1.out 0
        have f1 : w1.frozen? ⟨w.heap.size + 1 + 1, 1, none⟩ = false := free_at R1.out 1
        have HR : Hid (((w1.setCell ⟨w.heap.size + 1 + 1, 0, none⟩ (.slice none 0 0)).setCell ⟨w.heap.size + 1 + 1, 1, none⟩ (.slice none 0 0)).heap[w.heap.size + 1 + 1]? = some (.cells #[.slice none 0 0, .slice none 0 0] 26 (0, 0))) := arr_stored R1.out
        go_wp2
        refine bodyPost_ret (results_arr_tmp Try.results116 _ _ (w.heap.size + 1 + 1) _ _ rfl HR.out) rfl ?_
        exact ⟨_, rfl, arr_zero _ _ _, below_setCell (below_setCell HB1.out (by omega) _ _) (by omega) _ _⟩
end Go.Proofs.Ytcpgdhffemecbaa
namespace Go.Proofs.Ytcpgdhffemecbaa
open Go.RowKit
set_option maxHeartbeats 400000 in
theorem neutral_impl (s : Int) (w : World) :
    Calls Try.prog 13 #[.int .i64 s] w fun e w' => e = .returned (.tuple #[.int .i64 (neu s).1, .bool (neu s).2]) ∧ w' = w := by
  go_enter Try.func13, Try.ntmps13
  go_wp2
  all_goals
    go_ret2
    refine ⟨?_, rfl⟩
    simp_all [neu]
end Go.Proofs.Ytcpgdhffemecbaa
namespace Go.Proofs.Ytcpgdhffemecbaa
open Go.RowKit
set_option linter.unusedVariables false
set_option linter.unusedSimpArgs false
/-- A row of which there is none. -/
def redN (g : Int) (t : List Int) : Int × List Int × List Int := reshapeR [(t.length : Int)] t [] [(neu g).1]
def reduceR (g : Int) (s d : List Int) : Int × List Int × List Int := if sign2 g = true ∧ arrOk s d = true then (if s = [] then (0, [], d) else if 0 < s.getD 0 0 then mkR (redL g (s.drop 1) (rowsD s d)).1 (s.drop 1) (redL g (s.drop 1) (rowsD s d)).2 else redN g (s.drop 1)) else (1, [], [])
set_option maxRecDepth 20000 in
set_option maxHeartbeats 4000000 in
/-- neutralRow. -/
theorem neutralRow_impl {g : Int} {t : List Int} {w : World} {u : Value} (h : IntsI w u t) (ht : t.length ≤ 1000) :
    Calls Try.prog 82 #[.int .i64 g, u] w fun r w' => ∃ v', r = .returned (.tuple #[v', .int .i64 (redN g t).1]) ∧ Arr w.heap.size w'.heap.size w' v' (redN g t).2.1 (redN g t).2.2 ∧ Below w.heap.size w w' := by
  have H : Hid (IntsI w u t) := h
  have HRS : Hid (∀ W v o', ArrI W v [(t.length : Int)] t → Ints W (some ⟨o', 0, none⟩) [(neu g).1] → Calls Try.prog 116 #[v, .agg #[.slice none 0 0, .slice (some ⟨o', 0, none⟩) 1 1]] W fun r w' => ∃ v', r = .returned (.tuple #[v', .int .i64 (redN g t).1]) ∧ Arr W.heap.size w'.heap.size w' v' (redN g t).2.1 (redN g t).2.2 ∧ Below W.heap.size W w') := fun W v o' hv hi => reshape_impl hv ⟨none, 0, _, 1, rfl, .inl rfl, hi, Nat.le_refl _, Nat.le_refl _⟩ (by simp) (by omega) (by simp) (by simp)
  have HNE : Hid (∀ W, Calls Try.prog 13 #[.int .i64 g] W fun e w' => e = .returned (.tuple #[.int .i64 (neu g).1, .bool (neu g).2]) ∧ w' = W) := neutral_impl g
  obtain ⟨a, c, rfl, _, _⟩ := h
  have HVC : Hid (∀ W, Below w.heap.size w W → Calls Try.prog 66 #[.slice a t.length c] W fun r w' => ∃ v', r = .returned v' ∧ Arr W.heap.size w'.heap.size w' v' [(t.length : Int)] t ∧ Below W.heap.size W w') := fun W hb => vecCopy_impl (H.out.keep hb) (by omega)
  generalize (neu g).1 = x at *
  generalize (neu g).2 = y at *
  generalize redN g t = RR at *
  obtain ⟨C, S, D⟩ := RR
  simp only at HRS ⊢
  clear ht
  go_enter Try.func82, Try.ntmps82
  go_wp2_with fail
  refine (HNE.out _).mono ?_
  rintro r w1 ⟨rfl, hw1⟩
  subst hw1
  go_wp2_with fail
  refine (HVC.out _ (bAlloc (Below.refl _ _) _)).mono ?_
  rintro r w2 ⟨v2, rfl, ha, hb⟩
  obtain ⟨xa, xc, ya, yc, rfl, _, _, _, _⟩ := ha.arrI
  have B2 : Hid (Below w.heap.size w w2) := bTrans (bAlloc (Below.refl _ _) _) hb
  have Y2 : Hid (Box w2 w.heap.size (.slice none 0 0) (.slice none 0 0) 26) := (box_new w _ _ _).keep hb
  have A2 : Hid (ArrI w2 (.agg #[.slice xa [(t.length : Int)].length xc, .slice ya t.length yc]) [(t.length : Int)] t) := ha.arrI
  clear ha hb
  have I2 : Hid (Ints (w2.alloc (.cells #[.int .i64 x] 3)) (some ⟨w2.heap.size, 0, none⟩) [x]) := ints_new w2 [x] 3
  go_wp2_with fail
  refine (HRS.out _ _ _ (A2.out.keep (bAlloc (Below.refl _ _) _)) I2.out).mono ?_
  rintro r w3 ⟨v3, rfl, ha, hb⟩
  obtain ⟨ua, uc, va, vc, rfl, _, _, _, _⟩ := ha.arrI
  have hb2 : Below w2.heap.size w2 w3 := bTrans (bAlloc (Below.refl _ _) _) hb
  have B3 : Hid (Below w.heap.size w w3) := bTrans B2.out hb2
  have Y3 : Hid (Box w3 w.heap.size (.slice none 0 0) (.slice none 0 0) 26) := Y2.out.keep hb2
  have A3 : Hid (Arr w2.heap.size w3.heap.size w3 (.agg #[.slice ua S.length uc, .slice va D.length vc]) S D) := ha.mono (by simp) (Nat.le_refl _)
  clear ha hb hb2
  have y3 := Y3.out.c0
  have y4 := Y3.out.c1
  have f0 := free_at Y3.out 0
  have f1 := free_at Y3.out 1
  have HRR : Hid (_ = _) := arr_stored (x' := .slice ua S.length uc) (y' := .slice va D.length vc) Y3.out
  go_wp2
  refine bodyPost_ret (results_arr_tmp Try.results82 _ _ w.heap.size _ _ rfl HRR.out) rfl ?_
  refine ⟨_, rfl, ?_, below_setCell (below_setCell B3.out (Nat.le_refl _) _ _) (Nat.le_refl _) _ _⟩
  have L := Y2.out.lt
  exact ((A3.out.setCell (by omega) _ _).setCell (by omega) _ _).mono (by omega) (by simp only [size_setCell]; omega)
/-- Behind the stores of an answer, in whichever order they were done. -/
theorem red0_end {w W : World} {N0 B : Nat} {x y : Value} {C : Int} {S D : List Int} (hB : Below N0 w W) (h1 : Box W (N0 + 1) (.slice none 0 0) (.slice none 0 0) 26) (h2 : W.heap[N0 + 2]? = some (.cells #[.int .i64 0] 3 (0, 0))) (ha : Arr B W.heap.size W (.agg #[x, y]) S D) (hN : N0 + 3 ≤ B) :
    (∀ V, V = (((W.setCell ⟨N0 + 1, 0, none⟩ x).setCell ⟨N0 + 1, 1, none⟩ y).setCell ⟨N0 + 1 + 1, 0, none⟩ (.int .i64 C)) ∨ V = (((W.setCell ⟨N0 + 1 + 1, 0, none⟩ (.int .i64 C)).setCell ⟨N0 + 1, 0, none⟩ x).setCell ⟨N0 + 1, 1, none⟩ y) →
      V.heap[N0 + 1]? = some (.cells #[x, y] 26 (0, 0)) ∧ V.cell? ⟨N0 + 1 + 1, 0, none⟩ = some (.int .i64 C) ∧ Arr N0 V.heap.size V (.agg #[x, y]) S D ∧ Below N0 w V) := by
  rintro V (rfl | rfl)
  · refine ⟨?_, ?_, ?_, ?_⟩
    · have q : Box ((W.setCell ⟨N0 + 1, 0, none⟩ x).setCell ⟨N0 + 1, 1, none⟩ y) (N0 + 1) x y 26 := arr_stored h1
      exact q.win (win_setCell _ (N0 + 1 + 1) 0 _) (.inl (by omega))
    · have q : ((W.setCell ⟨N0 + 1, 0, none⟩ x).setCell ⟨N0 + 1, 1, none⟩ y).heap[N0 + 1 + 1]? = some (.cells #[.int .i64 0] 3 (0, 0)) := by
        rw [heap_setCell_other _ _ _ _ (by show N0 + 1 + 1 ≠ N0 + 1; omega), heap_setCell_other _ _ _ _ (by show N0 + 1 + 1 ≠ N0 + 1; omega)]
        exact h2
      exact cell_at (heap_setCell_same _ (N0 + 1 + 1) 0 _ _ (.int .i64 C) q) rfl
    · exact (((ha.setCell (by omega) _ _).setCell (by omega) _ _).setCell (by omega) _ _).mono (by omega) (by simp only [size_setCell]; exact Nat.le_refl _)
    · exact below_setCell (below_setCell (below_setCell hB (by omega) _ _) (by omega) _ _) (by omega) _ _
  · have q0 := heap_setCell_same W (N0 + 1 + 1) 0 _ _ (.int .i64 C) h2
    have b1 : Box (W.setCell ⟨N0 + 1 + 1, 0, none⟩ (.int .i64 C)) (N0 + 1) (.slice none 0 0) (.slice none 0 0) 26 := h1.win (win_setCell _ (N0 + 1 + 1) 0 _) (.inl (by omega))
    refine ⟨arr_stored b1, ?_, ?_, ?_⟩
    · refine cell_at (cs := (#[Value.int .i64 0].set 0 (.int .i64 C))) (t := 3) (fr := (0, 0)) ?_ rfl
      rw [heap_setCell_other _ _ _ _ (by show N0 + 1 + 1 ≠ N0 + 1; omega), heap_setCell_other _ _ _ _ (by show N0 + 1 + 1 ≠ N0 + 1; omega)]
      exact q0
    · exact (((ha.setCell (by omega) _ _).setCell (by omega) _ _).setCell (by omega) _ _).mono (by omega) (by simp only [size_setCell]; exact Nat.le_refl _)
    · exact below_setCell (below_setCell (below_setCell hB (by omega) _ _) (by omega) _ _) (by omega) _ _
set_option maxRecDepth 20000 in
set_option maxHeartbeats 4000000 in
/-- reducing's closure, of an array without rows. -/
theorem reduce0_impl {g : Int} {t d : List Int} {w : World} {v : Value} {o : Nat} (h : ArrI w v (0 :: t) d) (ho : arrOk (0 :: t) d = true) (hg : w.cell? ⟨o, 0, none⟩ = some (.int .i64 g)) (hol : o < w.heap.size) :
    Calls Try.prog 80 #[v, .pointer (some ⟨o, 0, none⟩)] w fun r w' => ∃ v', r = .returned (.tuple #[v', .int .i64 (redN g t).1]) ∧ Arr w.heap.size w'.heap.size w' v' (redN g t).2.1 (redN g t).2.2 ∧ Below w.heap.size w w' := by
  have H : Hid (ArrI w v (0 :: t) d) := h
  obtain ⟨a, c, b, f, rfl, h1, _, g1, _⟩ := h
  have k1 := (sizeV_ok (arrOk_shape ho)).1
  simp at k1
  have HCO : Hid (∀ W q, Below w.heap.size w W → Box W q (.slice a (t.length + 1) c) (.slice b d.length f) 26 → Calls Try.prog 81 #[.func (.func 86) #[] #[.pointer (some ⟨q, 0, none⟩)]] W fun e w' => ∃ a' c', e = .returned (.slice a' 0 c') ∧ Below W.heap.size W w') := fun W q hb hB => by
    refine (collect_rows (H.out.keep hb) ho hB).mono ?_
    rintro e w' ⟨v, xs, rfl, hL⟩
    have e0 : rowsN (0 :: t) = 0 := rfl
    rw [e0] at hL
    rcases hL.own.2 with ⟨rfl, _⟩ | ⟨g', cap, cur, rfl, _⟩
    · exact ⟨_, _, rfl, hL.below⟩
    · exact ⟨_, _, rfl, hL.below⟩
  obtain ⟨tl, ct, hcut, hti⟩ := tail_cut h1 g1
  have HTI : Hid (IntsI w (.slice tl t.length ct) t) := hti
  have HNR : Hid (∀ W, Below w.heap.size w W → Calls Try.prog 82 #[.int .i64 g, .slice tl t.length ct] W fun r w' => ∃ v', r = .returned (.tuple #[v', .int .i64 (redN g t).1]) ∧ Arr W.heap.size w'.heap.size w' v' (redN g t).2.1 (redN g t).2.2 ∧ Below W.heap.size W w') := fun W hb => neutralRow_impl (HTI.out.keep hb) (by omega)
  have HCR : Hid (∀ W x y, x.oneCell' = true → y.oneCell' = true → Calls Try.prog 40 #[.agg #[x, y]] W fun e w' => e = .returned (.func (.func 86) #[] #[.pointer (some ⟨W.heap.size, 0, none⟩)]) ∧ w' = W.alloc (.cells #[x, y] 26)) := fun W x y hx hy => (callsIn_wide (n := 5)).1 (cutRows_in 5 x y W hx hy)
  generalize redN g t = RR at *
  obtain ⟨C, S, D⟩ := RR
  simp only at HNR ⊢
  have HGC : Hid (w.cell? ⟨o, 0, none⟩ = some (.int .i64 g) ∧ o < w.heap.size) := ⟨hg, hol⟩
  clear ho hti h1 g1 k1 hg hol
  go_enter Try.func80, Try.ntmps80
  go_wp2_with fail
  refine (HCR.out _ _ _ rfl rfl).mono ?_
  rintro rr w2 ⟨rfl, hw⟩
  have hsz2 : w2.heap.size = w.heap.size + 4 := by rw [hw]; simp
  have BK : Hid (w2.heap[w.heap.size + 1]? = some (.cells #[.slice none 0 0, .slice none 0 0] 26 (0, 0)) ∧ w2.heap[w.heap.size + 2]? = some (.cells #[.int .i64 0] 3 (0, 0)) ∧ w2.heap[w.heap.size + 3]? = some (.cells #[.slice a (t.length + 1) c, .slice b d.length f] 26 (0, 0))) := by rw [hw]; exact blocks4 w _ _ _ _
  have X2 : Hid (Box w2 w.heap.size (.slice a (t.length + 1) c) (.slice b d.length f) 26) := by rw [hw]; exact Box.keep (box_new w _ _ _) (bAlloc (bAlloc (bAlloc (Below.refl _ _) _) _) _)
  have B2 : Hid (Below w.heap.size w w2) := by rw [hw]; exact bAlloc (bAlloc (bAlloc (bAlloc (Below.refl _ _) _) _) _) _
  clear hw
  go_wp2_with fail
  refine (HCO.out w2 (w.heap.size + 3) B2.out BK.out.2.2).mono ?_
  rintro rr w3 ⟨a3, c3, rfl, hb3⟩
  have X3 : Hid (Box w3 w.heap.size (.slice a (t.length + 1) c) (.slice b d.length f) 26) := X2.out.keep hb3
  have Y3 : Hid (Box w3 (w.heap.size + 1) (.slice none 0 0) (.slice none 0 0) 26) := Box.keep (w := w2) BK.out.1 hb3
  have I3 : Hid (w3.heap[w.heap.size + 2]? = some (.cells #[.int .i64 0] 3 (0, 0))) := (hb3.block _ (by omega)).trans BK.out.2.1
  have B3 : Hid (Below w.heap.size w w3) := bTrans B2.out hb3
  have L3 : Hid (w.heap.size + 4 ≤ w3.heap.size) := by have := hb3.size; show _ ≤ _; omega
  clear hb3
  have x0 := X3.out.c0
  have g3 : w3.cell? ⟨o, 0, none⟩ = some (.int .i64 g) := (B3.out.cell (p := ⟨o, 0, none⟩) HGC.out.2).trans HGC.out.1
  go_wp2_with fail
  go_region_with (go_at_call 82; refine (HNR.out _ (B3.out.drew)).mono ?_; rintro r w4 ⟨v4, rfl, ha, hb⟩; obtain ⟨s1, d1, rfl, p1, p2, p3⟩ := ha; obtain ⟨ta, tc, rfl, _⟩ := p1.ints; obtain ⟨da, dc, rfl, _⟩ := p2.ints; have hb4 : Below w3.heap.size w3 w4 := bTrans ((Below.refl w3.heap.size w3).drew) hb; have B4 : Hid (Below w.heap.size w w4) := bTrans B3.out hb4; have Y4 : Hid (Box w4 (w.heap.size + 1) (.slice none 0 0) (.slice none 0 0) 26) := Y3.out.keep hb4; have I4 : Hid (w4.heap[w.heap.size + 2]? = some (.cells #[.int .i64 0] 3 (0, 0))) := (hb4.block _ (by have := L3.out; omega)).trans I3.out; have A4 : Hid (Arr w3.heap.size w4.heap.size w4 (.agg #[.slice ta S.length tc, .slice da D.length dc]) S D) := ⟨_, _, rfl, p1, p2, p3⟩; clear p1 p2 p3 hb hb4; have y3 := Y4.out.c0; have y4 := Y4.out.c1; have f0 := free_at Y4.out 0; have f1 := free_at Y4.out 1; have y5 : w4.cell? ⟨w.heap.size + 1 + 1, 0, none⟩ = some (.int .i64 0) := cell_at I4.out rfl; have f2 : w4.frozen? ⟨w.heap.size + 1 + 1, 0, none⟩ = false := free_at I4.out 0)
  all_goals
    go_wp2
    have L := L3.out
    first
      | (obtain ⟨k1, k2, k3, k4⟩ := red0_end (w := w) (C := C) B4.out Y4.out I4.out A4.out (by omega) _ (.inl rfl)
         refine bodyPost_ret (results_arr_int rfl _ _ (w.heap.size + 1) (w.heap.size + 1 + 1) _ _ _ rfl rfl k1 k2) rfl ?_
         exact ⟨_, rfl, k3, k4⟩)
      | (obtain ⟨k1, k2, k3, k4⟩ := red0_end (w := w) (C := C) B4.out Y4.out I4.out A4.out (by omega) _ (.inr rfl)
         refine bodyPost_ret (results_arr_int rfl _ _ (w.heap.size + 1) (w.heap.size + 1 + 1) _ _ _ rfl rfl k1 k2) rfl ?_
         exact ⟨_, rfl, k3, k4⟩)
theorem reduceR_bad {g : Int} {s d : List Int} (h : ¬ (sign2 g = true ∧ arrOk s d = true)) : reduceR g s d = (1, [], []) := by unfold reduceR; rw [if_neg h]
theorem reduceR_nil {g : Int} {d : List Int} (h : sign2 g = true ∧ arrOk [] d = true) : reduceR g [] d = (0, [], d) := by unfold reduceR; rw [if_pos h, if_pos rfl]
theorem reduceR_some {g n0 : Int} {t d : List Int} (h : sign2 g = true ∧ arrOk (n0 :: t) d = true) (hn : 0 < n0) : reduceR g (n0 :: t) d = ((redL g t (rowsD (n0 :: t) d)).1, (if (redL g t (rowsD (n0 :: t) d)).1 = 0 then t else []), (redL g t (rowsD (n0 :: t) d)).2) := by
  unfold reduceR
  rw [if_pos h, if_neg (by simp), if_pos (by simpa using hn)]
  show mkR (redL g t (rowsD (n0 :: t) d)).1 t (redL g t (rowsD (n0 :: t) d)).2 = _
  unfold mkR
  by_cases h0 : (redL g t (rowsD (n0 :: t) d)).1 = 0
  · rw [if_pos h0, if_pos h0, h0]
  · rw [if_neg h0, if_neg h0, redL_none h0]
theorem reduceR_none {g : Int} {t d : List Int} (h : sign2 g = true ∧ arrOk (0 :: t) d = true) : reduceR g (0 :: t) d = redN g t := by
  unfold reduceR
  rw [if_pos h, if_neg (by simp), if_neg (by simp)]
  rfl
theorem reducing2_impl (g : Int) (w : World) :
    Calls Try.prog 35 #[.int .i64 g] w fun r w' => r = .returned (.func (.func 80) #[] #[.pointer (some ⟨w.heap.size, 0, none⟩)]) ∧ w'.cell? ⟨w.heap.size, 0, none⟩ = some (.int .i64 g) ∧ Below w.heap.size w w' ∧ w.heap.size < w'.heap.size := by
  refine (reducing_impl g w).mono ?_
  rintro r w' ⟨rfl, rfl⟩
  exact ⟨rfl, cell_at (heap_alloc_new w _) rfl, bAlloc (Below.refl _ _) _, by simp⟩
set_option maxRecDepth 20000 in
set_option maxHeartbeats 4000000 in
/-- Reduce. -/
theorem reduce_impl {g : Int} {s d : List Int} {w : World} {v : Value} (h : ArrI w v s d) (hs : s.length ≤ 1048576) (hd : d.length ≤ 1048576) :
    Calls Try.prog 9 #[.int .i64 g, v] w fun r w' => ∃ v', r = .returned (.tuple #[v', .int .i64 (reduceR g s d).1]) ∧ Arr w.heap.size w'.heap.size w' v' (reduceR g s d).2.1 (reduceR g s d).2.2 ∧ Below w.heap.size w w' := by
  have H : Hid (ArrI w v s d) := h
  have HAL : Hid (∀ (W : World) (u : Value) (o : Nat), ArrI W u s d → W.cell? ⟨o, 0, none⟩ = some (.int .i64 g) → o < W.heap.size → Calls Try.prog 34 #[.int .i64 g, u, .func (.func 80) #[] #[.pointer (some ⟨o, 0, none⟩)]] W fun r w' => ∃ v', r = .returned (.tuple #[v', .int .i64 (reduceR g s d).1]) ∧ Arr W.heap.size w'.heap.size w' v' (reduceR g s d).2.1 (reduceR g s d).2.2 ∧ Below W.heap.size W w') := fun W u o hu hg lg => by
    refine along_impl (enters_of Try.func80 (by kernel_rfl) rfl) hu hs hd (fun q => ?_) (fun q e => ?_) (fun W' u' q1 q2 q3 hb hu' => ?_)
    · rw [reduceR_bad q]; exact ⟨rfl, rfl, rfl⟩
    · subst e; rw [reduceR_nil q]; exact ⟨rfl, rfl, rfl⟩
    · cases s with
      | nil => exact absurd rfl q3
      | cons n0 t =>
        have hh := head_bd q2
        simp only [List.getD_cons_zero] at hh
        by_cases hn : 0 < n0
        · rw [reduceR_some ⟨q1, q2⟩ hn]
          exact reduce1_impl hu' q2 hn ((hb.cell (p := ⟨o, 0, none⟩) lg).trans hg) (Nat.lt_of_lt_of_le lg hb.size)
        · obtain rfl : n0 = 0 := by omega
          rw [reduceR_none ⟨q1, q2⟩]
          exact reduce0_impl hu' q2 ((hb.cell (p := ⟨o, 0, none⟩) lg).trans hg) (Nat.lt_of_lt_of_le lg hb.size)
  obtain ⟨C, hC⟩ : ∃ C, C = (reduceR g s d).1 := ⟨_, rfl⟩
  obtain ⟨S, hS⟩ : ∃ S, S = (reduceR g s d).2.1 := ⟨_, rfl⟩
  obtain ⟨D, hD⟩ : ∃ D, D = (reduceR g s d).2.2 := ⟨_, rfl⟩
  rw [← hS, ← hC, ← hD] at HAL
  rw [← hS, ← hC, ← hD]
  obtain ⟨a, c, b, e, rfl, _, _, _, _⟩ := h
  obtain ⟨W1, hW1⟩ : ∃ W1, W1 = (w.alloc (.cells #[.slice a s.length c, .slice b d.length e] 26)).alloc (.cells #[.slice none 0 0, .slice none 0 0] 26) := ⟨_, rfl⟩
  have BW1 : Hid (Below w.heap.size w W1) := by rw [hW1]; exact bAlloc (bAlloc (Below.refl _ _) _) _
  have X1 : Hid (Box W1 w.heap.size (.slice a s.length c) (.slice b d.length e) 26) := by rw [hW1]; exact heap_alloc2_old w _ _
  have Y1 : Hid (Box W1 (w.heap.size + 1) (.slice none 0 0) (.slice none 0 0) 26) := by rw [hW1]; exact heap_alloc2_new w _ _
  have z0 := X1.out.c0
  have z1 := X1.out.c1
  clear hC hS hD hs hd
  go_enter Try.func9, Try.ntmps9
  go_wp2_with fail
  rw [← hW1]
  clear hW1
  go_region_with (first
    | (go_at_call 35; refine (reducing2_impl _ _).mono ?_; rintro r w2 ⟨rfl, hc1, hb, hsz⟩; have HB2 : Hid (Below W1.heap.size W1 w2) := bTrans ((Below.refl W1.heap.size W1).drew) hb; have HC2 : Hid (_ ∧ _) := ⟨hc1, hsz⟩; clear hc1 hb hsz; have y0 := (X1.out.keep HB2.out).c0; have y1 := (X1.out.keep HB2.out).c1)
    | (go_at_call 34; refine (HAL.out _ _ _ (H.out.keep (bTrans BW1.out HB2.out)) HC2.out.1 HC2.out.2).mono ?_; rintro r w3 ⟨v3, rfl, ha, hb⟩; obtain ⟨s1, d1, rfl, p1, p2, p3⟩ := ha; obtain ⟨ta, tc, rfl, _⟩ := p1.ints; obtain ⟨da, dc, rfl, _⟩ := p2.ints; have HB3 : Hid (Below W1.heap.size W1 w3) := bTrans HB2.out hb; have Y3 : Hid (Box w3 (w.heap.size + 1) (.slice none 0 0) (.slice none 0 0) 26) := Y1.out.keep HB3.out; have A3 : Hid (Arr W1.heap.size w3.heap.size w3 (.agg #[.slice ta S.length tc, .slice da D.length dc]) S D) := Arr.mono ⟨_, _, rfl, p1, p2, p3⟩ HB2.out.size (Nat.le_refl _); clear p1 p2 p3 hb; have y3 := Y3.out.c0; have y4 := Y3.out.c1; have f0 := free_at Y3.out 0; have f1 := free_at Y3.out 1; have HRR : Hid (_ = _) := arr_stored (x' := .slice ta S.length tc) (y' := .slice da D.length dc) Y3.out))
  all_goals
    go_wp2
    refine bodyPost_ret (results_arr_tmp Try.results9 _ _ (w.heap.size + 1) _ _ rfl HRR.out) rfl ?_
    refine ⟨_, rfl, ?_, below_setCell (below_setCell (bTrans BW1.out HB3.out) (by omega) _ _) (by omega) _ _⟩
    have L1 := Y1.out.lt
    exact ((A3.out.setCell (by omega) _ _).setCell (by omega) _ _).mono (by omega) (by simp only [size_setCell]; omega)
end Go.Proofs.Ytcpgdhffemecbaa
namespace Go.Proofs.Ytcpgdhffemecbaa
set_option linter.unusedVariables false
/-- One number with each of a list: the first code, the numbers. -/
def spreadC (g x : Int) (e : List Int) : Int := firstC (fun j => (twoV g x (e.getD j 0)).2) e.length
def spreadD (g x : Int) (e : List Int) (n : Nat) : List Int := (List.range n).map (fun j => (twoV g x (e.getD j 0)).1)
/-- The first n numbers of d with each of e. -/
def outC (g : Int) (d e : List Int) (n : Nat) : Int := firstC (fun i => spreadC g (d.getD i 0) e) n
def outD (g : Int) (d e : List Int) (n : Nat) : List Int := (List.range n).flatMap (fun i => spreadD g (d.getD i 0) e e.length)
def outerC (g : Int) (s d t e : List Int) : Int := if arrOk s d = true ∧ arrOk t e = true ∧ sign2 g = true then (if 3 < s.length + t.length then 4 else if sizeV (s ++ t) < 0 then 6 else outC g d e d.length) else 1
def outerR (g : Int) (s d t e : List Int) : Int × List Int × List Int := mkR (outerC g s d t e) (s ++ t) (outD g d e d.length)
theorem outerR_bad {g : Int} {s d t e : List Int} (h : ¬ (arrOk s d = true ∧ arrOk t e = true ∧ sign2 g = true)) : outerR g s d t e = (1, [], []) := by
  unfold outerR; rw [show outerC g s d t e = 1 from by unfold outerC; rw [if_neg h]]; rfl
theorem outerR_told {g : Int} {s d t e : List Int} (h1 : arrOk s d = true) (h2 : arrOk t e = true) (h3 : sign2 g = true) :
    outerR g s d t e = if 3 < s.length + t.length then (4, [], []) else if sizeV (s ++ t) < 0 then (6, [], []) else mkR (outC g d e d.length) (s ++ t) (outD g d e d.length) := by
  unfold outerR outerC
  rw [if_pos ⟨h1, h2, h3⟩]
  split
  · rfl
  · split <;> rfl
theorem spreadD_len (g x : Int) (e : List Int) (n : Nat) : (spreadD g x e n).length = n := by simp [spreadD]
theorem spreadD_succ (g x : Int) (e : List Int) (n : Nat) : spreadD g x e (n + 1) = spreadD g x e n ++ [(twoV g x (e.getD n 0)).1] := by
  unfold spreadD; rw [List.range_succ, List.map_append]; rfl
theorem outD_succ (g : Int) (d e : List Int) (n : Nat) : outD g d e (n + 1) = outD g d e n ++ spreadD g (d.getD n 0) e e.length := by
  unfold outD; rw [List.range_succ, List.flatMap_append]; simp
theorem outD_len (g : Int) (d e : List Int) (n : Nat) : (outD g d e n).length = n * e.length := by
  induction n with
  | zero => simp [outD]
  | succ n ih => rw [outD_succ, List.length_append, ih, spreadD_len, Nat.succ_mul]
/-- A number of rank 0 and an array, element by element. -/
theorem each_spread {g x : Int} {t e : List Int} (hx : ok x = true) (h2 : arrOk t e = true) (h3 : sign2 g = true) :
    eachTwoC g [] [x] t e = spreadC g x e ∧ eachTwoS g [] [x] t e = (if spreadC g x e = 0 then t else []) ∧ eachTwoD g [] [x] t e = (if spreadC g x e = 0 then spreadD g x e e.length else []) := by
  have h1 : arrOk [] [x] = true := by simp [arrOk, hx, sizeV_0']
  have hf : fitC [] [x] t e = 0 := by unfold fitC; rw [if_pos ⟨h1, h2⟩, if_pos (.inl rfl)]
  have hS : fitS [] [x] t e = t := by unfold fitS; rw [if_pos hf, if_pos rfl]
  have z2 := arrOk_size h2
  have hN : eachN [] [x] t e = e.length := by unfold eachN; rw [hS]; omega
  have hn : ∀ i, i < e.length → numOf t e i = e.getD i 0 := by
    intro i hi
    unfold numOf
    by_cases ht : t = []
    · subst ht
      rw [sizeV_0'] at z2
      rw [if_pos rfl, show i = 0 by omega]
    · rw [if_neg ht]
  have hm : ∀ i, numOf [] [x] i = x := fun i => by unfold numOf; simp
  have hC : eachTwoC g [] [x] t e = spreadC g x e := by
    unfold eachTwoC spreadC
    rw [if_pos ⟨h1, h2, h3⟩, if_pos hf, hN]
    exact firstC_eq fun i hi => by rw [hm, hn i hi]
  refine ⟨hC, ?_, ?_⟩
  · unfold eachTwoS; rw [hC, hS]
  · unfold eachTwoD spreadD
    rw [hC, hN]
    split
    · apply List.map_congr_left
      intro i hi
      rw [hm, hn i (by simpa using hi)]
    · rfl
end Go.Proofs.Ytcpgdhffemecbaa
namespace Go.Proofs.Ytcpgdhffemecbaa
set_option linter.unusedVariables false
set_option linter.unusedSimpArgs false
/-- A vector, reduced: code and number. -/
def redW (g : Int) : List Int → Int × Int
  | [] => (0, 0)
  | x :: xs => if xs = [] then (0, x) else if (redW g xs).1 = 0 then ((twoV g x (redW g xs).2).2, (twoV g x (redW g xs).2).1) else ((redW g xs).1, 0)
theorem each_scalar {g x y : Int} (hx : ok x = true) (hy : ok y = true) (hg : sign2 g = true) : eachTwoC g [] [x] [] [y] = (twoV g x y).2 ∧ eachTwoD g [] [x] [] [y] = (if (twoV g x y).2 = 0 then [(twoV g x y).1] else []) := by
  have h2 : arrOk [] [y] = true := by simp [arrOk, hy, sizeV_0']
  obtain ⟨e1, _, e3⟩ := each_spread hx h2 hg
  have c : spreadC g x [y] = (twoV g x y).2 := by simp [spreadC, firstC]
  rw [e1, e3, c]
  refine ⟨rfl, ?_⟩
  simp [spreadD]
theorem redW_ok {g : Int} {l : List Int} (hl : l ≠ []) (h : ∀ x ∈ l, ok x = true) (h0 : (redW g l).1 = 0) : ok (redW g l).2 = true := by
  cases l with
  | nil => exact absurd rfl hl
  | cons x xs =>
    unfold redW at *
    by_cases e : xs = []
    · rw [if_pos e]; exact h x (by simp)
    · rw [if_neg e] at *
      by_cases q : (redW g xs).1 = 0
      · rw [if_pos q] at *; exact two_ok h0
      · rw [if_neg q] at *; exact absurd h0 q
theorem redL_vec {g : Int} (hg : sign2 g = true) {l : List Int} (hl : l ≠ []) (h : ∀ x ∈ l, ok x = true) : redL g [] (l.map (fun x => [x])) = ((redW g l).1, if (redW g l).1 = 0 then [(redW g l).2] else []) := by
  induction l with
  | nil => exact absurd rfl hl
  | cons x xs ih =>
    rw [List.map_cons]
    by_cases e : xs = []
    · subst e
      rw [List.map_nil, redL_one]
      simp [redW]
    · have q := ih e (fun y hy => h y (by simp [hy]))
      have hne : xs.map (fun x => [x]) ≠ [] := by simpa using e
      by_cases h0 : (redW g xs).1 = 0
      · have hk := redW_ok e (fun y hy => h y (by simp [hy])) h0
        have e2 : redL g [] (xs.map (fun x => [x])) = (0, [(redW g xs).2]) := by rw [q, h0]; rfl
        obtain ⟨s1, s2⟩ := each_scalar (g := g) (x := x) (y := (redW g xs).2) (h x (by simp)) hk hg
        rw [redL_cons hne (by rw [e2]), e2]
        simp only []
        rw [s1, s2]
        have e3 : redW g (x :: xs) = ((twoV g x (redW g xs).2).2, (twoV g x (redW g xs).2).1) := by rw [redW, if_neg e, if_pos h0]
        rw [e3]
      · have e3 : redW g (x :: xs) = ((redW g xs).1, 0) := by rw [redW, if_neg e, if_neg h0]
        rw [redL_stop (by rw [q]; exact h0), q, e3]
        simp [h0]
theorem rowsD_vec {n : Int} {d : List Int} (h : arrOk [n] d = true) : rowsD [n] d = d.map (fun x => [x]) := by
  have z := arrOk_size h
  rw [(sizeV_ok (arrOk_shape h)).2.2.2, prod1] at z
  subst z
  apply List.ext_getElem
  · simp [rowsD, rowsN]
  · intro i h1 h2
    have hi : i < d.length := by simpa using h2
    simp only [rowsD, List.getElem_map, List.getElem_range]
    have e : rowN [(d.length : Int)] = 1 := by simp [rowN, sizeV_0']
    unfold rowAt
    rw [e, Nat.mul_one]
    have q := List.drop_eq_getElem_cons hi
    rw [q]
    rfl
/-- Reduce of a vector. -/
theorem reduce_vec {g n : Int} {d : List Int} (hg : sign2 g = true) (h : arrOk [n] d = true) (hn : ok (neu g).1 = true) : reduceR g [n] d = if d = [] then (0, [], [(neu g).1]) else ((redW g d).1, [], if (redW g d).1 = 0 then [(redW g d).2] else []) := by
  have z := arrOk_size h
  rw [(sizeV_ok (arrOk_shape h)).2.2.2, prod1] at z
  by_cases hd : d = []
  · subst hd
    rw [if_pos rfl]
    obtain rfl : n = 0 := by simpa using z
    rw [reduceR_none ⟨hg, h⟩]
    have a1 : arrOk [(([] : List Int).length : Int)] [] = true := h
    have a2 : arrOk [] [(neu g).1] = true := by simp [arrOk, hn, sizeV_0']
    unfold redN reshapeR reshapeC
    rw [if_pos ⟨a1, a2⟩]
    simp [sizeV_0', mkR, againD]
  · rw [if_neg hd]
    have hp : 0 < n := by have := List.length_pos_iff.2 hd; omega
    have hall : ∀ x ∈ d, ok x = true := by
      simp only [arrOk, Bool.and_eq_true, List.all_eq_true] at h
      exact h.2
    rw [reduceR_some ⟨hg, h⟩ hp, rowsD_vec h, redL_vec hg hd hall]
    simp
theorem dim_ok {x : Int} (h : dimOk x = true) : 0 ≤ x ∧ x ≤ 300 := by
  unfold dimOk at h
  simp at h
  omega
theorem mul_two {x y : Int} (hx : 0 ≤ x) (hx2 : x ≤ 300) (hy : 0 ≤ y) (hy2 : y ≤ 90000) : twoV 42 x y = (x * y, 0) := by
  have k1 : ok x = true := by simp [ok]; omega
  have k2 : ok y = true := by simp [ok]; omega
  have h1 : 0 ≤ x * y := Int.mul_nonneg hx hy
  have h2 : x * y ≤ 300 * 90000 := Int.le_trans (Int.mul_le_mul_of_nonneg_right hx2 hy) (Int.mul_le_mul_of_nonneg_left hy2 (by omega))
  have k3 : ok (x * y) = true := by simp [ok]; omega
  rw [twoV_42 k1 k2, (lim_yes k3).1, (lim_yes k3).2]
/-- The product of a shape. -/
theorem count_prod {s : List Int} (hs : s ≠ []) (h : 0 ≤ sizeV s) : redW 42 s = (0, sizeV s) := by
  obtain ⟨k1, k2, k3, k4⟩ := sizeV_ok h
  rw [k4]
  rcases len3 k1 with rfl | ⟨x, rfl⟩ | ⟨x, y, rfl⟩ | ⟨x, y, z, rfl⟩
  · exact absurd rfl hs
  · rw [prod1]; rfl
  · simp only [List.all_cons, List.all_nil, Bool.and_true, Bool.and_eq_true] at k2
    have a := dim_ok k2.1
    have b := dim_ok k2.2
    rw [prod2]
    have e1 : redW 42 [y] = (0, y) := rfl
    rw [redW, if_neg (by simp), e1, if_pos rfl, mul_two a.1 a.2 b.1 (by omega)]
  · simp only [List.all_cons, List.all_nil, Bool.and_true, Bool.and_eq_true] at k2
    have a := dim_ok k2.1
    have b := dim_ok k2.2.1
    have c := dim_ok k2.2.2
    have h1 : 0 ≤ y * z := Int.mul_nonneg b.1 c.1
    have h2 : y * z ≤ 300 * 300 := Int.le_trans (Int.mul_le_mul_of_nonneg_right b.2 c.1) (Int.mul_le_mul_of_nonneg_left c.2 (by omega))
    rw [prod3]
    have e1 : redW 42 [z] = (0, z) := rfl
    have e2 : redW 42 [y, z] = (0, y * z) := by rw [redW, if_neg (by simp), e1, if_pos rfl, mul_two b.1 b.2 c.1 (by omega)]
    rw [redW, if_neg (by simp), e2, if_pos rfl, mul_two a.1 a.2 h1 (by omega), Int.mul_assoc]
theorem shape_vec {s d : List Int} (ho : arrOk s d = true) : arrOk [(s.length : Int)] s = true := by
  obtain ⟨k1, k2, k3, k4⟩ := sizeV_ok (arrOk_shape ho)
  simp only [arrOk, Bool.and_eq_true, decide_eq_true_eq, List.all_eq_true]
  refine ⟨?_, fun x hx => ?_⟩
  · unfold sizeV
    rw [if_neg (by simp), if_pos (by simp [dimOk]; omega), prod1, if_neg (by omega)]
  · have := dim_ok (List.all_eq_true.1 k2 x hx)
    simp [ok]
    omega
/-- A shape's numbers, multiplied. -/
theorem count_all {s d : List Int} (ho : arrOk s d = true) : reduceR 42 [(s.length : Int)] s = (0, [], [(d.length : Int)]) := by
  rw [reduce_vec (by decide) (shape_vec ho) (by decide)]
  have z := arrOk_size ho
  by_cases hs : s = []
  · subst hs
    rw [if_pos rfl]
    rw [sizeV_0'] at z
    rw [← z]; rfl
  · rw [if_neg hs, count_prod hs (arrOk_shape ho), z]; rfl
end Go.Proofs.Ytcpgdhffemecbaa
namespace Go.Proofs.Ytcpgdhffemecbaa
open Go.RowKit
set_option linter.unusedVariables false
set_option linter.unusedSimpArgs false
set_option maxRecDepth 20000 in
set_option maxHeartbeats 2000000 in
/-- ShapeOf. -/
theorem shapeOf_impl {s d : List Int} {w : World} {v : Value} (h : ArrI w v s d) (hs : s.length ≤ 1048576) (hd : d.length ≤ 1048576) :
    Calls Try.prog 23 #[v] w fun r w' => ∃ v', r = .returned (.tuple #[v', .int .i64 (shapeOfR s d).1]) ∧ Arr w.heap.size w'.heap.size w' v' (shapeOfR s d).2.1 (shapeOfR s d).2.2 ∧ Below w.heap.size w w' := by
  have H : Hid (ArrI w v s d) := h
  have HD : Hid (∀ W, Below w.heap.size w W → Calls Try.prog 20 #[v] W fun r w' => r = .returned (.bool (arrOk s d)) ∧ Below W.heap.size W w') := fun W hb => arrOk_impl (h.keep hb) hd
  obtain ⟨a, c, b, e, rfl, ia, ib, ga, gb⟩ := h
  have HC : Hid (∀ W, Below w.heap.size w W → Calls Try.prog 66 #[.slice a s.length c] W fun r w' => ∃ v', r = .returned v' ∧ Arr W.heap.size w'.heap.size w' v' [(s.length : Int)] s ∧ Below W.heap.size W w') := fun W hb => vecCopy_impl (IntsI.keep ⟨a, c, rfl, ga, ia⟩ hb) hs
  obtain ⟨x, hx⟩ : ∃ x, x = (shapeOfR s d).1 := ⟨_, rfl⟩
  obtain ⟨S, hS⟩ : ∃ S, S = (shapeOfR s d).2.1 := ⟨_, rfl⟩
  obtain ⟨D, hD⟩ : ∃ D, D = (shapeOfR s d).2.2 := ⟨_, rfl⟩
  rw [← hx, ← hS, ← hD]
  have E1 : Hid (arrOk s d = false → x = 1 ∧ S = [] ∧ D = []) := fun h => by
    rw [hx, hS, hD]; unfold shapeOfR okC; rw [if_neg (by rw [h]; simp), mkR_bad (by decide)]; exact ⟨rfl, rfl, rfl⟩
  have E2 : Hid (arrOk s d = true → x = 0 ∧ S = [(s.length : Int)] ∧ D = s) := fun h => by
    rw [hx, hS, hD]; unfold shapeOfR okC; rw [if_pos h, mkR_good]; exact ⟨rfl, rfl, rfl⟩
  clear hx hS hD ia ib ga gb hs hd
  generalize arrOk s d = z at *
  go_enter Try.func23, Try.ntmps23
  go_wp2_with fail
  refine (HD.out _ (bAlloc (bAlloc (Below.refl _ _) _) _)).mono ?_
  rintro r w1 ⟨rfl, hb⟩
  have HB : Hid (Below w.heap.size w w1) := bTrans (bAlloc (bAlloc (Below.refl _ _) _) _) hb
  have X : Hid (Box w1 w.heap.size (.slice a s.length c) (.slice b d.length e) 26) := ((box_new w _ _ _).keep (bAlloc (Below.refl _ _) _)).keep hb
  have Y : Hid (Box w1 (w.heap.size + 1) (.slice none 0 0) (.slice none 0 0) 26) := (box_new2 w _ _ _ _).keep hb
  have x0 := X.out.c0
  clear hb
  cases z
  · obtain ⟨rfl, rfl, rfl⟩ := E1.out (by trivial)
    clear E1 E2
    have y0 := Y.out.c0
    have y1 := Y.out.c1
    have f0 : w1.frozen? ⟨w.heap.size + 1, 0, none⟩ = false := free_at Y.out 0
    have f1 : w1.frozen? ⟨w.heap.size + 1, 1, none⟩ = false := free_at Y.out 1
    have HR : Hid (((w1.setCell ⟨w.heap.size + 1, 0, none⟩ (.slice none 0 0)).setCell ⟨w.heap.size + 1, 1, none⟩ (.slice none 0 0)).heap[w.heap.size + 1]? = some (.cells #[.slice none 0 0, .slice none 0 0] 26 (0, 0))) := arr_stored Y.out
    go_wp2
    refine bodyPost_ret (results_arr_tmp Try.results23 _ _ (w.heap.size + 1) _ _ rfl HR.out) rfl ?_
    exact ⟨_, rfl, arr_zero _ _ _, below_setCell (below_setCell HB.out (by omega) _ _) (by omega) _ _⟩
  · obtain ⟨rfl, eS, eD⟩ := E2.out (by trivial)
    have ES : Hid (S = [(s.length : Int)] ∧ D = s) := ⟨eS, eD⟩
    clear E1 E2 eS eD
    go_wp2_with fail
    refine (HC.out _ HB.out).mono ?_
    rintro r w2 ⟨v', rfl, ha, hb⟩
    obtain ⟨a', c', b', e', rfl, _, _, _, _⟩ := ha.arrI
    have HA : Hid (Arr w1.heap.size w2.heap.size w2 (.agg #[.slice a' 1 c', .slice b' s.length e']) [(s.length : Int)] s) := ha
    have HB2 : Hid (Below w.heap.size w w2) := bTrans HB.out hb
    have Y2 : Hid (Box w2 (w.heap.size + 1) (.slice none 0 0) (.slice none 0 0) 26) := Y.out.keep hb
    have LT : Hid (w.heap.size + 1 < w1.heap.size) := Y.out.lt
    clear ha hb x0
    have y0 := Y2.out.c0
    have y1 := Y2.out.c1
    have f0 : w2.frozen? ⟨w.heap.size + 1, 0, none⟩ = false := free_at Y2.out 0
    have f1 : w2.frozen? ⟨w.heap.size + 1, 1, none⟩ = false := free_at Y2.out 1
    have HR : Hid (((w2.setCell ⟨w.heap.size + 1, 0, none⟩ (.slice a' 1 c')).setCell ⟨w.heap.size + 1, 1, none⟩ (.slice b' s.length e')).heap[w.heap.size + 1]? = some (.cells #[.slice a' 1 c', .slice b' s.length e'] 26 (0, 0))) := arr_stored Y2.out
    simp only [List.length_cons, List.length_nil, Nat.zero_add]
    go_wp2
    refine bodyPost_ret (results_arr_tmp Try.results23 _ _ (w.heap.size + 1) _ _ rfl HR.out) rfl ?_
    refine ⟨_, rfl, ?_, below_setCell (below_setCell HB2.out (by omega) _ _) (by omega) _ _⟩
    have L := LT.out
    rw [ES.out.1, ES.out.2]
    exact ((HA.out.setCell L _ _).setCell L _ _).mono (by omega) (by simp [size_setCell])
set_option maxRecDepth 20000 in
set_option maxHeartbeats 2000000 in
/-- Ravel. -/
theorem ravel_impl {s d : List Int} {w : World} {v : Value} (h : ArrI w v s d) (hs : s.length ≤ 1048576) (hd : d.length ≤ 1048576) :
    Calls Try.prog 25 #[v] w fun r w' => ∃ v', r = .returned (.tuple #[v', .int .i64 (ravelR s d).1]) ∧ Arr w.heap.size w'.heap.size w' v' (ravelR s d).2.1 (ravelR s d).2.2 ∧ Below w.heap.size w w' := by
  have H : Hid (ArrI w v s d) := h
  have HD : Hid (∀ W, Below w.heap.size w W → Calls Try.prog 20 #[v] W fun r w' => r = .returned (.bool (arrOk s d)) ∧ Below W.heap.size W w') := fun W hb => arrOk_impl (h.keep hb) hd
  obtain ⟨a, c, b, e, rfl, ia, ib, ga, gb⟩ := h
  have HC : Hid (∀ W, Below w.heap.size w W → Calls Try.prog 66 #[.slice b d.length e] W fun r w' => ∃ v', r = .returned v' ∧ Arr W.heap.size w'.heap.size w' v' [(d.length : Int)] d ∧ Below W.heap.size W w') := fun W hb => vecCopy_impl (IntsI.keep ⟨b, e, rfl, gb, ib⟩ hb) hd
  obtain ⟨x, hx⟩ : ∃ x, x = (ravelR s d).1 := ⟨_, rfl⟩
  obtain ⟨S, hS⟩ : ∃ S, S = (ravelR s d).2.1 := ⟨_, rfl⟩
  obtain ⟨D, hD⟩ : ∃ D, D = (ravelR s d).2.2 := ⟨_, rfl⟩
  rw [← hx, ← hS, ← hD]
  have E1 : Hid (arrOk s d = false → x = 1 ∧ S = [] ∧ D = []) := fun h => by
    rw [hx, hS, hD]; unfold ravelR okC; rw [if_neg (by rw [h]; simp), mkR_bad (by decide)]; exact ⟨rfl, rfl, rfl⟩
  have E2 : Hid (arrOk s d = true → x = 0 ∧ S = [(d.length : Int)] ∧ D = d) := fun h => by
    rw [hx, hS, hD]; unfold ravelR okC; rw [if_pos h, mkR_good]; exact ⟨rfl, rfl, rfl⟩
  clear hx hS hD ia ib ga gb hs hd
  generalize arrOk s d = z at *
  go_enter Try.func25, Try.ntmps25
  go_wp2_with fail
  refine (HD.out _ (bAlloc (bAlloc (Below.refl _ _) _) _)).mono ?_
  rintro r w1 ⟨rfl, hb⟩
  have HB : Hid (Below w.heap.size w w1) := bTrans (bAlloc (bAlloc (Below.refl _ _) _) _) hb
  have X : Hid (Box w1 w.heap.size (.slice a s.length c) (.slice b d.length e) 26) := ((box_new w _ _ _).keep (bAlloc (Below.refl _ _) _)).keep hb
  have Y : Hid (Box w1 (w.heap.size + 1) (.slice none 0 0) (.slice none 0 0) 26) := (box_new2 w _ _ _ _).keep hb
  have x1 := X.out.c1
  clear hb
  cases z
  · obtain ⟨rfl, rfl, rfl⟩ := E1.out (by trivial)
    clear E1 E2
    have y0 := Y.out.c0
    have y1 := Y.out.c1
    have f0 : w1.frozen? ⟨w.heap.size + 1, 0, none⟩ = false := free_at Y.out 0
    have f1 : w1.frozen? ⟨w.heap.size + 1, 1, none⟩ = false := free_at Y.out 1
    have HR : Hid (((w1.setCell ⟨w.heap.size + 1, 0, none⟩ (.slice none 0 0)).setCell ⟨w.heap.size + 1, 1, none⟩ (.slice none 0 0)).heap[w.heap.size + 1]? = some (.cells #[.slice none 0 0, .slice none 0 0] 26 (0, 0))) := arr_stored Y.out
    go_wp2
    refine bodyPost_ret (results_arr_tmp Try.results25 _ _ (w.heap.size + 1) _ _ rfl HR.out) rfl ?_
    exact ⟨_, rfl, arr_zero _ _ _, below_setCell (below_setCell HB.out (by omega) _ _) (by omega) _ _⟩
  · obtain ⟨rfl, eS, eD⟩ := E2.out (by trivial)
    have ES : Hid (S = [(d.length : Int)] ∧ D = d) := ⟨eS, eD⟩
    clear E1 E2 eS eD
    go_wp2_with fail
    refine (HC.out _ HB.out).mono ?_
    rintro r w2 ⟨v', rfl, ha, hb⟩
    obtain ⟨a', c', b', e', rfl, _, _, _, _⟩ := ha.arrI
    have HA : Hid (Arr w1.heap.size w2.heap.size w2 (.agg #[.slice a' 1 c', .slice b' d.length e']) [(d.length : Int)] d) := ha
    have HB2 : Hid (Below w.heap.size w w2) := bTrans HB.out hb
    have Y2 : Hid (Box w2 (w.heap.size + 1) (.slice none 0 0) (.slice none 0 0) 26) := Y.out.keep hb
    have LT : Hid (w.heap.size + 1 < w1.heap.size) := Y.out.lt
    clear ha hb x1
    have y0 := Y2.out.c0
    have y1 := Y2.out.c1
    have f0 : w2.frozen? ⟨w.heap.size + 1, 0, none⟩ = false := free_at Y2.out 0
    have f1 : w2.frozen? ⟨w.heap.size + 1, 1, none⟩ = false := free_at Y2.out 1
    have HR : Hid (((w2.setCell ⟨w.heap.size + 1, 0, none⟩ (.slice a' 1 c')).setCell ⟨w.heap.size + 1, 1, none⟩ (.slice b' d.length e')).heap[w.heap.size + 1]? = some (.cells #[.slice a' 1 c', .slice b' d.length e'] 26 (0, 0))) := arr_stored Y2.out
    simp only [List.length_cons, List.length_nil, Nat.zero_add]
    go_wp2
    refine bodyPost_ret (results_arr_tmp Try.results25 _ _ (w.heap.size + 1) _ _ rfl HR.out) rfl ?_
    refine ⟨_, rfl, ?_, below_setCell (below_setCell HB2.out (by omega) _ _) (by omega) _ _⟩
    have L := LT.out
    rw [ES.out.1, ES.out.2]
    exact ((HA.out.setCell L _ _).setCell L _ _).mono (by omega) (by simp [size_setCell])
end Go.Proofs.Ytcpgdhffemecbaa
namespace Go.Proofs.Ytcpgdhffemecbaa
open Go.RowKit
set_option linter.unusedVariables false
set_option linter.unusedSimpArgs false
theorem okC_good {s d : List Int} (h : arrOk s d = true) : okC s d = 0 := by unfold okC; rw [if_pos h]
theorem okC_bad {s d : List Int} (h : ¬ arrOk s d = true) : okC s d = 1 := by unfold okC; rw [if_neg h]
set_option maxRecDepth 20000 in
set_option maxHeartbeats 2000000 in
/-- ShapeOf. -/
theorem shapeOf_spec {s d : List Int} {w : World} {v : Value} (h : ArrI w v s d) (hs : s.length ≤ 1048576) (hd : d.length ≤ 1048576) :
    Calls Try.prog 24 #[v] w fun e w' => ∃ v', e = .returned (.tuple #[v', .int .i64 (shapeOfR s d).1]) ∧ Arr w.heap.size w'.heap.size w' v' (shapeOfR s d).2.1 (shapeOfR s d).2.2 ∧ Below w.heap.size w w' := by
  have H : Hid (ArrI w v s d) := h
  obtain ⟨a, c, b, f, rfl, h1, h2, _, _⟩ := h
  have H1 : Hid (Ints w a s) := h1
  have H2 : Hid (Ints w b d) := h2
  have HS : Hid (s.length ≤ 1048576) := hs
  have HD : Hid (d.length ≤ 1048576) := hd
  clear h1 h2 hs hd
  by_cases ho : arrOk s d = true
  · have HO : Hid (arrOk s d = true) := ho
    obtain ⟨Z, hZ⟩ : ∃ Z : List Int, Z = [(s.length : Int)] := ⟨_, rfl⟩
    have ER : shapeOfR s d = (0, Z, s) := by unfold shapeOfR; rw [okC_good ho, hZ]; rfl
    have HV : Hid (∀ W, Ints W a s → Calls Try.prog 67 #[.slice a s.length c] W fun e w' => ∃ v, e = .returned v ∧ Arr W.heap.size w'.heap.size w' v Z s ∧ Below W.heap.size W w') := fun W h => by rw [hZ]; exact vector_spec c h HS.out
    rw [ER]
    clear ho ER hZ
    go_enter Try.func24, Try.ntmps24
    go_wp2_with fail
    refine (arrOk_spec (H.out.keep (bAlloc (bAlloc (Below.refl _ _) _) _)) HD.out).mono ?_
    rintro r w1 ⟨rfl, hb⟩
    have HB1 : Hid (Below w.heap.size w w1) := bTrans (bAlloc (bAlloc (Below.refl _ _) _) _) hb
    have X1 : Hid (Box w1 w.heap.size (.slice a s.length c) (.slice b d.length f) 26) := ((box_new w _ _ _).keep (bAlloc (Below.refl _ _) _)).keep hb
    have Y1 : Hid (Box w1 (w.heap.size + 1) (.slice none 0 0) (.slice none 0 0) 26) := (box_new2 w _ _ _ _).keep hb
    have x0 := X1.out.c0
    have x1 := X1.out.c1
    have L1 : Hid (w.heap.size + 1 < w1.heap.size) := Y1.out.lt
    clear hb
    rw [HO.out]
    go_wp2_with fail
    refine (HV.out _ (H1.out.keep HB1.out)).mono ?_
    rintro r w2 ⟨v', rfl, ha, hb⟩
    obtain ⟨a', c', b', f', rfl, _, _, _, _⟩ := ha.arrI
    have HA : Hid (Arr w1.heap.size w2.heap.size w2 (.agg #[.slice a' Z.length c', .slice b' s.length f']) Z s) := ha
    have HB2 : Hid (Below w.heap.size w w2) := bTrans HB1.out hb
    have Y2 : Hid (Box w2 (w.heap.size + 1) (.slice none 0 0) (.slice none 0 0) 26) := Y1.out.keep hb
    clear ha hb x0 x1
    have y0 := Y2.out.c0
    have y1 := Y2.out.c1
    have f0 : w2.frozen? ⟨w.heap.size + 1, 0, none⟩ = false := free_at Y2.out 0
    have f1 : w2.frozen? ⟨w.heap.size + 1, 1, none⟩ = false := free_at Y2.out 1
    have HR : Hid (((w2.setCell ⟨w.heap.size + 1, 0, none⟩ (.slice a' Z.length c')).setCell ⟨w.heap.size + 1, 1, none⟩ (.slice b' s.length f')).heap[w.heap.size + 1]? = some (.cells #[.slice a' Z.length c', .slice b' s.length f'] 26 (0, 0))) := arr_stored Y2.out
    go_wp2
    refine bodyPost_ret (results_arr_tmp Try.results24 _ _ (w.heap.size + 1) _ _ rfl HR.out) rfl ?_
    refine ⟨_, rfl, ?_, below_setCell (below_setCell HB2.out (by omega) _ _) (by omega) _ _⟩
    have L := L1.out
    exact ((HA.out.setCell L _ _).setCell L _ _).mono (by omega) (by simp only [size_setCell]; omega)
  · have HO : Hid (arrOk s d = false) := by show _ = _; simpa using ho
    have ER : shapeOfR s d = (1, [], []) := by unfold shapeOfR; rw [okC_bad ho]; rfl
    rw [ER]
    clear ho ER
    go_enter Try.func24, Try.ntmps24
    go_wp2_with fail
    refine (arrOk_spec (H.out.keep (bAlloc (bAlloc (Below.refl _ _) _) _)) HD.out).mono ?_
    rintro r w1 ⟨rfl, hb⟩
    have HB1 : Hid (Below w.heap.size w w1) := bTrans (bAlloc (bAlloc (Below.refl _ _) _) _) hb
    have Y1 : Hid (Box w1 (w.heap.size + 1) (.slice none 0 0) (.slice none 0 0) 26) := (box_new2 w _ _ _ _).keep hb
    clear hb
    rw [HO.out]
    have y0 := Y1.out.c0
    have y1 := Y1.out.c1
    have f0 : w1.frozen? ⟨w.heap.size + 1, 0, none⟩ = false := free_at Y1.out 0
    have f1 : w1.frozen? ⟨w.heap.size + 1, 1, none⟩ = false := free_at Y1.out 1
    have HR : Hid (((w1.setCell ⟨w.heap.size + 1, 0, none⟩ (.slice none 0 0)).setCell ⟨w.heap.size + 1, 1, none⟩ (.slice none 0 0)).heap[w.heap.size + 1]? = some (.cells #[.slice none 0 0, .slice none 0 0] 26 (0, 0))) := arr_stored Y1.out
    go_wp2
    refine bodyPost_ret (results_arr_tmp Try.results24 _ _ (w.heap.size + 1) _ _ rfl HR.out) rfl ?_
    exact ⟨_, rfl, arr_zero _ _ _, below_setCell (below_setCell HB1.out (by omega) _ _) (by omega) _ _⟩
/-- What l5Right makes of an array. -/
def rightR (s d : List Int) : Int × List Int × List Int := mkR (if arrOk s d = true then 0 else 6) s d
end Go.Proofs.Ytcpgdhffemecbaa
