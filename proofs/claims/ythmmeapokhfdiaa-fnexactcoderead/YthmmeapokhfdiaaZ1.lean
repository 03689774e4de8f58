/-
  Several walks, one behind the other: ImplShape0, ImplArr1, CodeI, CodeI2, CodeI3, CodeI4, ReadI5, PackI, PackI2, CodeS, CodeS2, CodeS3, PackS, ReadS5.
-/
import Derived.Test.YthmmeapokhfdiaaExtIdx
import Derived.Laws.CopyOwn
import Derived.Test.YthmmeapokhfdiaaArrM
import Derived.Test.YthmmeapokhfdiaaArr
import Derived.Test.YthmmeapokhfdiaaNumOk
import Derived.Test.YthmmeapokhfdiaaCodeM
import Derived.Test.YthmmeapokhfdiaaCodeQ
import Derived.Test.YthmmeapokhfdiaaFunOk
import Derived.Shelf.Abstract
import Derived.WalkMore
import Derived.ScopeJumps
import Derived.Test.YthmmeapokhfdiaaReadI4
import Derived.Test.YthmmeapokhfdiaaInsG
import Derived.Test.YthmmeapokhfdiaaPackM
import Derived.Test.YthmmeapokhfdiaaBytK
import Derived.Test.YthmmeapokhfdiaaGrow
import Derived.Test.YthmmeapokhfdiaaReadS2
import Derived.Test.YthmmeapokhfdiaaReadS3
import Derived.Test.YthmmeapokhfdiaaReadS4
import Derived.Laws.BytesArg
namespace Go.Proofs.Ythmmeapokhfdiaa
open Go.RowKit
set_option linter.unusedVariables false
theorem cell_new (w : World) (cs : Array Value) (t : TypeId) {k : Nat} {v : Value} (h : cs[k]? = some v) : (w.alloc (.cells cs t)).cell? ⟨w.heap.size, k, none⟩ = some v := by
  rw [World.cell?_alloc_at _ _ _ _ rfl]; exact h
theorem kept4 (w : World) (A o0 o1 o2 o3 : Obj) : Below (w.alloc A).heap.size (w.alloc A) (((((w.alloc A).alloc o0).alloc o1).alloc o2).alloc o3) := bAlloc (bAlloc (bAlloc (bAlloc (Below.refl _ _) _) _) _) _
theorem int_size : (Try.prog.info? 3).map (·.size) = some 1 := by kernel_rfl
/-- The cells of a row that is known whole. -/
theorem src_row {w : World} {g : Nat} {cs : List Value} {t : TypeId} {fr : Nat × Nat} (hg : w.heap[g]? = some (.cells cs.toArray t fr)) (n : Nat) : ∀ (j : Nat) (v : Value), (cs.take n)[j]? = some v → w.cell? ((⟨g, 0, none⟩ : Addr).add j) = some v := by
  intro j v h
  have hj : cs[j]? = some v := by
    rw [List.getElem?_take] at h
    split at h
    · exact h
    · cases h
  have e : (⟨g, 0, none⟩ : Addr).add j = ⟨g, j, none⟩ := by unfold Addr.add; split <;> simp_all
  rw [e]
  simp only [World.cell?, hg]
  simpa using hj
theorem modify_last' {α : Type} (xs : Array α) (a b : α) (f : α → α) (hf : f a = b) : (xs.push a).modify xs.size f = xs.push b := by
  apply Array.ext
  · simp
  · intro i h1 h2
    simp only [Array.getElem_modify]
    by_cases e : i < xs.size
    · simp [Array.getElem_push, e, show ¬ xs.size = i by omega]
    · have : xs.size = i := by simp at h2; omega
      simp [Array.getElem_push, this, hf]
theorem setRow_last (w : World) (old cs : Array Value) (t : TypeId) : (w.alloc (.cells old t)).setRow w.heap.size cs = w.alloc (.cells cs t) := by
  unfold World.setRow
  rw [show (w.alloc (.cells old t)).heap = w.heap.push (.cells old t) from rfl, modify_last' _ _ (.cells cs t) _ rfl]
  rfl
/-- Out of an array of three into a new list. -/
theorem copy_out (w : World) (ty t : TypeId) (src Z : List Value) (n : Nat) (hn : n ≤ 3) (hs : src.length = 3) (hZ : Z.length = n) (h1 : ∀ v ∈ src, v.oneCell' = true) :
    (Builtin.copy_ #[41, 41] ty #[.slice (some ⟨w.heap.size + 1, 0, none⟩) n n, .slice (some ⟨w.heap.size, 0, none⟩) 3 3]).run Try.prog ((w.alloc (.cells src.toArray t)).alloc (.cells Z.toArray 3)) =
      .ok (.int .i64 n) ((w.alloc (.cells src.toArray t)).alloc (.cells (src.take n).toArray 3)) := by
  have hl : (src.take n).length = n := by simp; omega
  have e : (w.alloc (.cells src.toArray t)).heap.size = w.heap.size + 1 := by simp
  have hg : ((w.alloc (.cells src.toArray t)).alloc (.cells Z.toArray 3)).heap[w.heap.size + 1]? = some (.cells Z.toArray 3 (0, 0)) := by rw [← e]; exact heap_alloc_new _ _
  have hg0 : ((w.alloc (.cells src.toArray t)).alloc (.cells Z.toArray 3)).heap[w.heap.size]? = some (.cells src.toArray t (0, 0)) := by rw [heap_alloc_old _ _ (by simp)]; exact heap_alloc_new _ _
  have q := run_copy_row Try.prog ((w.alloc (.cells src.toArray t)).alloc (.cells Z.toArray 3)) 41 41 ty 3 (w.heap.size + 1) 0 n n ⟨w.heap.size, 0, none⟩ 3 3 Z.toArray 3 (src.take n) Try.underlying41 int_size hg (by rw [hl]; exact (Nat.min_eq_right hn).symm) (src_row hg0 n) (by simp; omega) (fun v hv => h1 v (List.mem_of_mem_take hv))
  rw [q, hl]
  have e2 : (Z.toArray.toList.take 0 ++ src.take n ++ Z.toArray.toList.drop (0 + n)).toArray = (src.take n).toArray := by simp [hZ]
  rw [e2, ← e, setRow_last]
  rfl
theorem ints_src {w : World} {b off : Nat} {l : List Int} (h : ∀ k, k < l.length → w.cell? ⟨b, off + k, none⟩ = some (.int .i64 (l.getD k 0))) : ∀ (j : Nat) (v : Value), (l.map (Value.int .i64))[j]? = some v → w.cell? ((⟨b, off, none⟩ : Addr).add j) = some v := by
  intro j v hv
  rw [List.getElem?_map] at hv
  cases hx : l[j]? with
  | none => rw [hx] at hv; cases hv
  | some x =>
    rw [hx] at hv
    obtain ⟨hj, rfl⟩ := List.getElem?_eq_some_iff.1 hx
    have e : (⟨b, off, none⟩ : Addr).add j = ⟨b, off + j, none⟩ := by unfold Addr.add; split <;> simp_all
    rw [e, h j hj]
    simpa [hj] using hv
set_option maxRecDepth 20000 in
/-- Out of a list into a new array of three. -/
theorem copy_in {w : World} {a : Option Addr} {l : List Int} (h1 : Ints w a l) (ty t : TypeId) (d : Nat) (hn : l.length ≤ 3) :
    (Builtin.copy_ #[41, 41] ty #[.slice (some ⟨w.heap.size, 0, none⟩) 3 3, .slice a l.length d]).run Try.prog (w.alloc (.cells #[.int .i64 0, .int .i64 0, .int .i64 0] t)) =
      .ok (.int .i64 l.length) (w.alloc (.cells (axC l) t)) := by
  by_cases h0 : l.length = 0
  · obtain rfl : l = [] := List.eq_nil_of_length_eq_zero h0
    exact run_copy_none (P := Try.prog) _ 41 41 ty 3 _ _ _ _ _ _ Try.underlying41 int_size rfl
  · rcases h1 with rfl | ⟨b, off, rfl, hb, hc⟩
    · exact absurd rfl h0
    · have hg : (w.alloc (.cells #[.int .i64 0, .int .i64 0, .int .i64 0] t)).heap[w.heap.size]? = some (.cells #[.int .i64 0, .int .i64 0, .int .i64 0] t (0, 0)) := heap_alloc_new _ _
      have hc' : ∀ k, k < l.length → (w.alloc (.cells #[.int .i64 0, .int .i64 0, .int .i64 0] t)).cell? ⟨b, off + k, none⟩ = some (.int .i64 (l.getD k 0)) := by
        intro k hk
        rw [(bAlloc (Below.refl w.heap.size w) _).cell (p := ⟨b, off + k, none⟩) hb]
        exact hc k hk
      have q := run_copy_row Try.prog (w.alloc (.cells #[.int .i64 0, .int .i64 0, .int .i64 0] t)) 41 41 ty 3 w.heap.size 0 3 3 ⟨b, off, none⟩ l.length d #[.int .i64 0, .int .i64 0, .int .i64 0] t (l.map (Value.int .i64)) Try.underlying41 int_size hg (by rw [List.length_map]; exact (Nat.min_eq_left hn).symm) (ints_src hc') (by simp; omega) (by intro v hv; obtain ⟨x, _, rfl⟩ := List.mem_map.1 hv; rfl)
      rw [q, setRow_last, List.length_map]
      congr 3
      rcases len3 hn with rfl | ⟨x, rfl⟩ | ⟨x, y, rfl⟩ | ⟨x, y, z, rfl⟩ <;> rfl
end Go.Proofs.Ythmmeapokhfdiaa
namespace Go.Proofs.Ythmmeapokhfdiaa
open Go.RowKit
set_option linter.unusedVariables false
set_option linter.unusedSimpArgs false
set_option maxRecDepth 20000 in
set_option maxHeartbeats 1000000 in
/-- allRight. -/
theorem allRight_impl {d : List Int} {b : Option Addr} {w : World} (e : Nat) (h : Ints w b d) (hd : d.length ≤ 1048576) :
    Calls Try.prog 60 #[.slice b d.length e] w fun e w' => e = .returned (.bool (d.all ok)) ∧ w' = w := by
  have HJ : Hid (Ints w b d) := h
  clear h
  go_enter Try.func60, Try.ntmps60
  go_wp2
  go_loopw [7] (fun i w' => ∃ k : Nat, k ≤ d.length ∧ i = .int .i64 k ∧ (d.take k).all ok = true ∧ w' = w) (fun i _ => d.length - (intOf i).toNat)
  case atStart => exact ⟨0, by omega, rfl, by simp, rfl⟩
  case round =>
    obtain ⟨k, hk, rfl, ht, rfl⟩ := hrel
    have HT : Hid ((d.take k).all ok = true) := ht
    clear ht
    by_cases hlt : (k : Int) < (d.length : Int)
    · have L : k < d.length := by omega
      obtain ⟨b1, o1, rfl, _, c1⟩ := HJ.out.at L
      have Q : Hid ((d.take (k + 1)).all ok = ((d.take k).all ok && ok (d.getD k 0))) := by show _ = _; rw [take_snoc L, all_snocN]
      have QB : Hid (ok (d.getD k 0) = false → d.all ok = false) := fun h => by
        rw [List.all_eq_false]
        exact ⟨d.getD k 0, by simp [L], by rw [h]; decide⟩
      clear L
      generalize d.getD k 0 = x at c1 Q QB
      by_cases hx : ok x = true
      · have HT' : Hid ((d.take (k + 1)).all ok = true) := by show _ = _; rw [Q.out, HT.out, hx]; rfl
        clear Q QB
        go_wp2_with fail
        refine (numOk_impl x _).mono ?_
        rintro r w' ⟨rfl, hw⟩
        subst w'
        go_wp2
        go_roundw
        case rel => exact ⟨k + 1, by omega, by go_num, HT'.out, by first | trivial | rfl⟩
        case measure => simp [intOf]; omega
      · have hx : ok x = false := by simpa using hx
        have HV' : Hid (d.all ok = false) := QB.out hx
        clear Q QB
        go_wp2_with fail
        refine (numOk_impl x _).mono ?_
        rintro r w' ⟨rfl, hw⟩
        subst w'
        go_wp2
        go_ret
        exact ⟨by rw [HV'.out]; rfl, rfl⟩
    · have HV' : Hid (d.all ok = true) := by
        have h := HT.out
        show _ = _
        rw [List.take_of_length_le (by omega)] at h
        exact h
      go_wp2
      go_ret
      exact ⟨by rw [HV'.out]; rfl, rfl⟩
end Go.Proofs.Ythmmeapokhfdiaa
namespace Go.Proofs.Ythmmeapokhfdiaa
open Go.RowKit
set_option linter.unusedVariables false
set_option linter.unusedSimpArgs false
set_option maxRecDepth 20000 in
set_option maxHeartbeats 4000000 in
theorem isLetter_impl (x : Int) (w : World) : Calls Try.prog 57 #[.int .i64 x] w fun r w' => r = .returned (.bool (decide (0 ≤ x ∧ x ≤ 25))) ∧ w' = w := by
  go_enter Try.func57, Try.ntmps57
  go_wp2
  all_goals
    go_ret
    refine ⟨ret_bool ?_, rfl⟩
    first | (simp_all; done) | (simp_all; omega) | (rw [Bool.eq_iff_iff]; simp_all; omega)
set_option maxRecDepth 20000 in
set_option maxHeartbeats 4000000 in
theorem numsOk_impl {l : List Int} {w : World} {a : Option Addr} (c : Nat) (h : Ints w a l) (hl : l.length ≤ 1048576) :
    Calls Try.prog 56 #[.slice a l.length c] w fun e w' => e = .returned (.bool (numsB l)) ∧ w' = w := by
  have HA : Hid (Calls Try.prog 60 #[.slice a l.length c] w fun e w' => e = .returned (.bool (l.all ok)) ∧ w' = w) := allRight_impl c h hl
  have E : numsB l = ((decide ((1 : Int) ≤ (l.length : Int)) && decide ((l.length : Int) ≤ 300)) && l.all ok) := by
    unfold numsB
    congr 1
    rw [Bool.eq_iff_iff]
    simp
    omega
  rw [E]
  clear E h
  generalize l.all ok = q at *
  generalize l.length = n at *
  go_enter Try.func56, Try.ntmps56
  go_wp2_with (go_at_call 60; refine HA.out.mono ?_; rintro r w1 ⟨rfl, hw⟩; subst w1)
  all_goals
    go_ret
    refine ⟨ret_bool ?_, rfl⟩
    first | (simp_all; done) | (simp_all; omega) | (rw [Bool.eq_iff_iff]; simp_all; omega)
end Go.Proofs.Ythmmeapokhfdiaa
namespace Go.Proofs.Ythmmeapokhfdiaa
open Go.RowKit
set_option linter.unusedVariables false
set_option linter.unusedSimpArgs false
section
variable {e0 e1 e2 e3 e4 : Int} {l : List Int} {w : World} {xa : Option Addr} {xc : Nat}
set_option maxRecDepth 20000 in
set_option maxHeartbeats 8000000 in
theorem justNums_impl (h : IntsI w (.slice xa l.length xc) l) (hl : l.length ≤ 1048576) : Calls Try.prog 52 #[.agg #[.int .i64 e0, .int .i64 e1, .int .i64 e2, .int .i64 e3, .int .i64 e4, .slice xa l.length xc]] w fun r w' => r = .returned (.bool (decide (e1 = 0) && noFun e2 e3 e4 && numsB l)) ∧ Below w.heap.size w w' := by
  obtain ⟨_, _, ev, _, hi⟩ := h
  cases ev
  have HN : Hid (∀ W, Below w.heap.size w W → Calls Try.prog 56 #[.slice xa l.length xc] W fun e w' => e = .returned (.bool (numsB l)) ∧ w' = W) := fun W hb => numsOk_impl xc (hi.keep hb) hl
  clear hi
  generalize numsB l = q at *
  go_enter Try.func52, Try.ntmps52
  go_wp2_with (go_at_call 56; refine (HN.out _ one_below).mono ?_; rintro r w1 ⟨rfl, hw⟩; subst w1)
  all_goals
    go_ret
    refine ⟨ret_bool ?_, one_below⟩
    simp_all [noFun]
set_option maxRecDepth 20000 in
set_option maxHeartbeats 8000000 in
theorem justLetter_impl (h : IntsI w (.slice xa l.length xc) l) (hl : l.length ≤ 1048576) : Calls Try.prog 53 #[.agg #[.int .i64 e0, .int .i64 e1, .int .i64 e2, .int .i64 e3, .int .i64 e4, .slice xa l.length xc]] w fun r w' => r = .returned (.bool (decide (0 ≤ e1 ∧ e1 ≤ 25) && noFun e2 e3 e4 && decide (l.length = 0))) ∧ Below w.heap.size w w' := by
  clear h
  generalize l.length = n at *
  have HI : Hid (∀ W, Calls Try.prog 57 #[.int .i64 e1] W fun r w' => r = .returned (.bool (decide (0 ≤ e1 ∧ e1 ≤ 25))) ∧ w' = W) := fun W => isLetter_impl e1 W
  generalize decide (0 ≤ e1 ∧ e1 ≤ 25) = q at *
  cases q
  · go_enter Try.func53, Try.ntmps53
    go_wp2_with (go_at_call 57; refine (HI.out _).mono ?_; rintro r w1 ⟨rfl, hw⟩; subst w1)
    all_goals
      go_ret
      exact ⟨by simp, one_below⟩
  · go_enter Try.func53, Try.ntmps53
    go_wp2_with (go_at_call 57; refine (HI.out _).mono ?_; rintro r w1 ⟨rfl, hw⟩; subst w1)
    all_goals
      go_ret
      refine ⟨ret_bool ?_, one_below⟩
      first | (simp_all [noFun]; done) | (simp_all [noFun]; rw [Bool.eq_iff_iff]; simp; done) | (simp_all [noFun]; rw [Bool.eq_iff_iff]; simp; omega)
set_option maxRecDepth 20000 in
set_option maxHeartbeats 8000000 in
theorem justFunOne_impl (h : IntsI w (.slice xa l.length xc) l) (hl : l.length ≤ 1048576) : Calls Try.prog 54 #[.agg #[.int .i64 e0, .int .i64 e1, .int .i64 e2, .int .i64 e3, .int .i64 e4, .slice xa l.length xc]] w fun r w' => r = .returned (.bool (decide (e1 = 0) && funOneB e2 e3 e4 && decide (l.length = 0))) ∧ Below w.heap.size w w' := by
  clear h
  generalize l.length = n at *
  by_cases h1 : e1 = 0
  · subst h1
    have HF : Hid (∀ W, Calls Try.prog 58 #[.agg #[.int .i64 e2, .int .i64 e3, .int .i64 e4]] W fun e w' => e = .returned (.bool (funOneB e2 e3 e4)) ∧ Below W.heap.size W w') := fun W => funOne_impl _ _ _ _
    generalize funOneB e2 e3 e4 = q at *
    go_enter Try.func54, Try.ntmps54
    go_wp2_with fail
    refine (HF.out _).mono ?_
    rintro r w1 ⟨rfl, hb⟩
    have B1 : Hid (Below w.heap.size w w1) := bTrans one_below hb
    have c5 : w1.cell? ⟨w.heap.size, 5, none⟩ = some (.slice xa n xc) := (hb.cell (p := ⟨w.heap.size, 5, none⟩) (by simp)).trans (cell_at (heap_alloc_new w (.cells #[.int .i64 e0, .int .i64 0, .int .i64 e2, .int .i64 e3, .int .i64 e4, .slice xa n xc] 47)) rfl)
    clear hb HF
    cases q
    · go_wp2
      go_ret
      exact ⟨by simp, B1.out⟩
    · go_wp2
      all_goals
        go_ret
        refine ⟨ret_bool ?_, B1.out⟩
        first | (simp_all; done) | (simp_all; rw [Bool.eq_iff_iff]; simp; done) | (simp_all; rw [Bool.eq_iff_iff]; simp; omega)
  · have b1 : (e1 == 0) = false := by simpa using h1
    have d1 : decide (e1 = 0) = false := decide_eq_false h1
    rw [d1]
    clear h1
    go_enter Try.func54, Try.ntmps54
    go_wp2
    go_ret
    exact ⟨by simp, one_below⟩
set_option maxRecDepth 20000 in
set_option maxHeartbeats 8000000 in
theorem justFunTwo_impl (h : IntsI w (.slice xa l.length xc) l) (hl : l.length ≤ 1048576) : Calls Try.prog 55 #[.agg #[.int .i64 e0, .int .i64 e1, .int .i64 e2, .int .i64 e3, .int .i64 e4, .slice xa l.length xc]] w fun r w' => r = .returned (.bool (decide (e1 = 0) && funTwoB e2 e3 e4 && decide (l.length = 0))) ∧ Below w.heap.size w w' := by
  clear h
  generalize l.length = n at *
  by_cases h1 : e1 = 0
  · subst h1
    have HF : Hid (∀ W, Calls Try.prog 59 #[.agg #[.int .i64 e2, .int .i64 e3, .int .i64 e4]] W fun e w' => e = .returned (.bool (funTwoB e2 e3 e4)) ∧ Below W.heap.size W w') := fun W => funTwo_impl _ _ _ _
    generalize funTwoB e2 e3 e4 = q at *
    go_enter Try.func55, Try.ntmps55
    go_wp2_with fail
    refine (HF.out _).mono ?_
    rintro r w1 ⟨rfl, hb⟩
    have B1 : Hid (Below w.heap.size w w1) := bTrans one_below hb
    have c5 : w1.cell? ⟨w.heap.size, 5, none⟩ = some (.slice xa n xc) := (hb.cell (p := ⟨w.heap.size, 5, none⟩) (by simp)).trans (cell_at (heap_alloc_new w (.cells #[.int .i64 e0, .int .i64 0, .int .i64 e2, .int .i64 e3, .int .i64 e4, .slice xa n xc] 47)) rfl)
    clear hb HF
    cases q
    · go_wp2
      go_ret
      exact ⟨by simp, B1.out⟩
    · go_wp2
      all_goals
        go_ret
        refine ⟨ret_bool ?_, B1.out⟩
        first | (simp_all; done) | (simp_all; rw [Bool.eq_iff_iff]; simp; done) | (simp_all; rw [Bool.eq_iff_iff]; simp; omega)
  · have b1 : (e1 == 0) = false := by simpa using h1
    have d1 : decide (e1 = 0) = false := decide_eq_false h1
    rw [d1]
    clear h1
    go_enter Try.func55, Try.ntmps55
    go_wp2
    go_ret
    exact ⟨by simp, one_below⟩
end
def rulesOp : Value := .agg #[.nilFunc, .int .i64 0, .func (.func 52) #[] #[], .int .i64 0, .func (.func 53) #[] #[], .int .i64 0, .func (.func 53) #[] #[], .int .i64 1, .func (.func 54) #[] #[], .int .i64 1, .func (.func 55) #[] #[], .int .i64 2]
set_option maxRecDepth 20000 in
set_option maxHeartbeats 8000000 in
theorem opRules_impl (w : World) : Calls Try.prog 50 #[] w fun e w' => e = .returned rulesOp ∧ Below w.heap.size w w' := by
  go_enter Try.func50, Try.ntmps50
  go_wp2
  exact bodyPost_ret (v := rulesOp) (by simp [results, Try.results50, go_sem, rulesOp]) rfl ⟨rfl, bAlloc (Below.refl _ _) _⟩
theorem ixOp1 (w : World) : (Instr.index 79 rulesOp (.int .i64 1)).run Try.prog w = .ok (.agg #[.func (.func 52) #[] #[], .int .i64 0]) w := by kernel_rfl
theorem ixOp2 (w : World) : (Instr.index 79 rulesOp (.int .i64 2)).run Try.prog w = .ok (.agg #[.func (.func 53) #[] #[], .int .i64 0]) w := by kernel_rfl
theorem ixOp3 (w : World) : (Instr.index 79 rulesOp (.int .i64 3)).run Try.prog w = .ok (.agg #[.func (.func 53) #[] #[], .int .i64 1]) w := by kernel_rfl
theorem ixOp4 (w : World) : (Instr.index 79 rulesOp (.int .i64 4)).run Try.prog w = .ok (.agg #[.func (.func 54) #[] #[], .int .i64 1]) w := by kernel_rfl
theorem ixOp5 (w : World) : (Instr.index 79 rulesOp (.int .i64 5)).run Try.prog w = .ok (.agg #[.func (.func 55) #[] #[], .int .i64 2]) w := by kernel_rfl
theorem fldOp0 (f : Nat) (k : Int) (w : World) : (Instr.field 78 (.agg #[.func (.func f) #[] #[], .int .i64 k]) 0).run Try.prog w = .ok (.func (.func f) #[] #[]) w := by kernel_rfl
theorem fldOp1 (f : Nat) (k : Int) (w : World) : (Instr.field 78 (.agg #[.func (.func f) #[] #[], .int .i64 k]) 1).run Try.prog w = .ok (.int .i64 k) w := by kernel_rfl
end Go.Proofs.Ythmmeapokhfdiaa
namespace Go.Proofs.Ythmmeapokhfdiaa
open Go.RowKit Go.Shelf
set_option linter.unusedVariables false
set_option linter.unusedSimpArgs false
section
variable {e1 e2 e3 e4 : Int} {l : List Int} {w : World} {xa : Option Addr} {xc : Nat}
set_option maxRecDepth 20000 in
set_option maxHeartbeats 8000000 in
theorem taken1_impl {n : Nat} : Calls Try.prog 44 #[.agg #[.int .i64 1, .int .i64 e1, .int .i64 e2, .int .i64 e3, .int .i64 e4, .slice xa n xc]] w fun r w' => r = .returned (.int .i64 0) ∧ Below w.heap.size w w' := by
  have i0 := ixOp1
  have i1 := fldOp0
  have i2 := fldOp1
  go_enter Try.func44, Try.ntmps44
  go_wp2_with fail
  generalize hW : w.alloc (.cells #[.int .i64 1, .int .i64 e1, .int .i64 e2, .int .i64 e3, .int .i64 e4, .slice xa n xc] 47) = W0
  have B0 : Hid (Below w.heap.size w W0) := by rw [← hW]; exact one_below
  have LT : Hid (w.heap.size < W0.heap.size) := by rw [← hW]; show _ < _; simp
  have hn := heap_alloc_new w (.cells #[.int .i64 1, .int .i64 e1, .int .i64 e2, .int .i64 e3, .int .i64 e4, .slice xa n xc] 47)
  rw [hW] at hn
  have c0 : W0.cell? ⟨w.heap.size, 0, none⟩ = some (.int .i64 1) := cell_at hn rfl
  have c1 : W0.cell? ⟨w.heap.size, 1, none⟩ = some (.int .i64 e1) := cell_at hn rfl
  have c2 : W0.cell? ⟨w.heap.size, 2, none⟩ = some (.int .i64 e2) := cell_at hn rfl
  have c3 : W0.cell? ⟨w.heap.size, 3, none⟩ = some (.int .i64 e3) := cell_at hn rfl
  have c4 : W0.cell? ⟨w.heap.size, 4, none⟩ = some (.int .i64 e4) := cell_at hn rfl
  have c5 : W0.cell? ⟨w.heap.size, 5, none⟩ = some (.slice xa n xc) := cell_at hn rfl
  have SK : Hid (∀ W, Below W0.heap.size W0 W → W.cell? ⟨w.heap.size, 0, none⟩ = some (.int .i64 1) ∧ W.cell? ⟨w.heap.size, 1, none⟩ = some (.int .i64 e1) ∧ W.cell? ⟨w.heap.size, 2, none⟩ = some (.int .i64 e2) ∧ W.cell? ⟨w.heap.size, 3, none⟩ = some (.int .i64 e3) ∧ W.cell? ⟨w.heap.size, 4, none⟩ = some (.int .i64 e4) ∧ W.cell? ⟨w.heap.size, 5, none⟩ = some (.slice xa n xc)) := fun W hb => ⟨(hb.cell (p := ⟨w.heap.size, 0, none⟩) LT.out).trans c0, (hb.cell (p := ⟨w.heap.size, 1, none⟩) LT.out).trans c1, (hb.cell (p := ⟨w.heap.size, 2, none⟩) LT.out).trans c2, (hb.cell (p := ⟨w.heap.size, 3, none⟩) LT.out).trans c3, (hb.cell (p := ⟨w.heap.size, 4, none⟩) LT.out).trans c4, (hb.cell (p := ⟨w.heap.size, 5, none⟩) LT.out).trans c5⟩
  clear hW hn
  go_region_held3 (fun w' => w'.cell? ⟨w.heap.size, 0, none⟩ = some (.int .i64 1) ∧ w'.cell? ⟨w.heap.size, 1, none⟩ = some (.int .i64 e1) ∧ w'.cell? ⟨w.heap.size, 2, none⟩ = some (.int .i64 e2) ∧ w'.cell? ⟨w.heap.size, 3, none⟩ = some (.int .i64 e3) ∧ w'.cell? ⟨w.heap.size, 4, none⟩ = some (.int .i64 e4) ∧ w'.cell? ⟨w.heap.size, 5, none⟩ = some (.slice xa n xc))
    ((refine SK.out _ ?_; (repeat first | with_reducible exact HB3.out | with_reducible exact HB2.out | with_reducible exact Below.refl _ _ | with_reducible refine Below.drew ?_)))
    ((go_at_call 50; refine (opRules_impl _).mono ?_; rintro r w2 ⟨rfl, hb⟩; have HB2 : Hid (Below W0.heap.size W0 w2) := bTrans ((Below.refl W0.heap.size W0).drew) hb; clear hb))
  all_goals
    go_wp2
    go_ret
    exact ⟨rfl, bTrans B0.out HB2.out⟩
set_option maxRecDepth 20000 in
set_option maxHeartbeats 8000000 in
theorem taken2_impl {n : Nat} : Calls Try.prog 44 #[.agg #[.int .i64 2, .int .i64 e1, .int .i64 e2, .int .i64 e3, .int .i64 e4, .slice xa n xc]] w fun r w' => r = .returned (.int .i64 0) ∧ Below w.heap.size w w' := by
  have i0 := ixOp2
  have i1 := fldOp0
  have i2 := fldOp1
  go_enter Try.func44, Try.ntmps44
  go_wp2_with fail
  generalize hW : w.alloc (.cells #[.int .i64 2, .int .i64 e1, .int .i64 e2, .int .i64 e3, .int .i64 e4, .slice xa n xc] 47) = W0
  have B0 : Hid (Below w.heap.size w W0) := by rw [← hW]; exact one_below
  have LT : Hid (w.heap.size < W0.heap.size) := by rw [← hW]; show _ < _; simp
  have hn := heap_alloc_new w (.cells #[.int .i64 2, .int .i64 e1, .int .i64 e2, .int .i64 e3, .int .i64 e4, .slice xa n xc] 47)
  rw [hW] at hn
  have c0 : W0.cell? ⟨w.heap.size, 0, none⟩ = some (.int .i64 2) := cell_at hn rfl
  have c1 : W0.cell? ⟨w.heap.size, 1, none⟩ = some (.int .i64 e1) := cell_at hn rfl
  have c2 : W0.cell? ⟨w.heap.size, 2, none⟩ = some (.int .i64 e2) := cell_at hn rfl
  have c3 : W0.cell? ⟨w.heap.size, 3, none⟩ = some (.int .i64 e3) := cell_at hn rfl
  have c4 : W0.cell? ⟨w.heap.size, 4, none⟩ = some (.int .i64 e4) := cell_at hn rfl
  have c5 : W0.cell? ⟨w.heap.size, 5, none⟩ = some (.slice xa n xc) := cell_at hn rfl
  have SK : Hid (∀ W, Below W0.heap.size W0 W → W.cell? ⟨w.heap.size, 0, none⟩ = some (.int .i64 2) ∧ W.cell? ⟨w.heap.size, 1, none⟩ = some (.int .i64 e1) ∧ W.cell? ⟨w.heap.size, 2, none⟩ = some (.int .i64 e2) ∧ W.cell? ⟨w.heap.size, 3, none⟩ = some (.int .i64 e3) ∧ W.cell? ⟨w.heap.size, 4, none⟩ = some (.int .i64 e4) ∧ W.cell? ⟨w.heap.size, 5, none⟩ = some (.slice xa n xc)) := fun W hb => ⟨(hb.cell (p := ⟨w.heap.size, 0, none⟩) LT.out).trans c0, (hb.cell (p := ⟨w.heap.size, 1, none⟩) LT.out).trans c1, (hb.cell (p := ⟨w.heap.size, 2, none⟩) LT.out).trans c2, (hb.cell (p := ⟨w.heap.size, 3, none⟩) LT.out).trans c3, (hb.cell (p := ⟨w.heap.size, 4, none⟩) LT.out).trans c4, (hb.cell (p := ⟨w.heap.size, 5, none⟩) LT.out).trans c5⟩
  clear hW hn
  go_region_held3 (fun w' => w'.cell? ⟨w.heap.size, 0, none⟩ = some (.int .i64 2) ∧ w'.cell? ⟨w.heap.size, 1, none⟩ = some (.int .i64 e1) ∧ w'.cell? ⟨w.heap.size, 2, none⟩ = some (.int .i64 e2) ∧ w'.cell? ⟨w.heap.size, 3, none⟩ = some (.int .i64 e3) ∧ w'.cell? ⟨w.heap.size, 4, none⟩ = some (.int .i64 e4) ∧ w'.cell? ⟨w.heap.size, 5, none⟩ = some (.slice xa n xc))
    ((refine SK.out _ ?_; (repeat first | with_reducible exact HB3.out | with_reducible exact HB2.out | with_reducible exact Below.refl _ _ | with_reducible refine Below.drew ?_)))
    ((go_at_call 50; refine (opRules_impl _).mono ?_; rintro r w2 ⟨rfl, hb⟩; have HB2 : Hid (Below W0.heap.size W0 w2) := bTrans ((Below.refl W0.heap.size W0).drew) hb; clear hb))
  all_goals
    go_wp2
    go_ret
    exact ⟨rfl, bTrans B0.out HB2.out⟩
set_option maxRecDepth 20000 in
set_option maxHeartbeats 8000000 in
theorem taken3_impl {n : Nat} : Calls Try.prog 44 #[.agg #[.int .i64 3, .int .i64 e1, .int .i64 e2, .int .i64 e3, .int .i64 e4, .slice xa n xc]] w fun r w' => r = .returned (.int .i64 1) ∧ Below w.heap.size w w' := by
  have i0 := ixOp3
  have i1 := fldOp0
  have i2 := fldOp1
  go_enter Try.func44, Try.ntmps44
  go_wp2_with fail
  generalize hW : w.alloc (.cells #[.int .i64 3, .int .i64 e1, .int .i64 e2, .int .i64 e3, .int .i64 e4, .slice xa n xc] 47) = W0
  have B0 : Hid (Below w.heap.size w W0) := by rw [← hW]; exact one_below
  have LT : Hid (w.heap.size < W0.heap.size) := by rw [← hW]; show _ < _; simp
  have hn := heap_alloc_new w (.cells #[.int .i64 3, .int .i64 e1, .int .i64 e2, .int .i64 e3, .int .i64 e4, .slice xa n xc] 47)
  rw [hW] at hn
  have c0 : W0.cell? ⟨w.heap.size, 0, none⟩ = some (.int .i64 3) := cell_at hn rfl
  have c1 : W0.cell? ⟨w.heap.size, 1, none⟩ = some (.int .i64 e1) := cell_at hn rfl
  have c2 : W0.cell? ⟨w.heap.size, 2, none⟩ = some (.int .i64 e2) := cell_at hn rfl
  have c3 : W0.cell? ⟨w.heap.size, 3, none⟩ = some (.int .i64 e3) := cell_at hn rfl
  have c4 : W0.cell? ⟨w.heap.size, 4, none⟩ = some (.int .i64 e4) := cell_at hn rfl
  have c5 : W0.cell? ⟨w.heap.size, 5, none⟩ = some (.slice xa n xc) := cell_at hn rfl
  have SK : Hid (∀ W, Below W0.heap.size W0 W → W.cell? ⟨w.heap.size, 0, none⟩ = some (.int .i64 3) ∧ W.cell? ⟨w.heap.size, 1, none⟩ = some (.int .i64 e1) ∧ W.cell? ⟨w.heap.size, 2, none⟩ = some (.int .i64 e2) ∧ W.cell? ⟨w.heap.size, 3, none⟩ = some (.int .i64 e3) ∧ W.cell? ⟨w.heap.size, 4, none⟩ = some (.int .i64 e4) ∧ W.cell? ⟨w.heap.size, 5, none⟩ = some (.slice xa n xc)) := fun W hb => ⟨(hb.cell (p := ⟨w.heap.size, 0, none⟩) LT.out).trans c0, (hb.cell (p := ⟨w.heap.size, 1, none⟩) LT.out).trans c1, (hb.cell (p := ⟨w.heap.size, 2, none⟩) LT.out).trans c2, (hb.cell (p := ⟨w.heap.size, 3, none⟩) LT.out).trans c3, (hb.cell (p := ⟨w.heap.size, 4, none⟩) LT.out).trans c4, (hb.cell (p := ⟨w.heap.size, 5, none⟩) LT.out).trans c5⟩
  clear hW hn
  go_region_held3 (fun w' => w'.cell? ⟨w.heap.size, 0, none⟩ = some (.int .i64 3) ∧ w'.cell? ⟨w.heap.size, 1, none⟩ = some (.int .i64 e1) ∧ w'.cell? ⟨w.heap.size, 2, none⟩ = some (.int .i64 e2) ∧ w'.cell? ⟨w.heap.size, 3, none⟩ = some (.int .i64 e3) ∧ w'.cell? ⟨w.heap.size, 4, none⟩ = some (.int .i64 e4) ∧ w'.cell? ⟨w.heap.size, 5, none⟩ = some (.slice xa n xc))
    ((refine SK.out _ ?_; (repeat first | with_reducible exact HB3.out | with_reducible exact HB2.out | with_reducible exact Below.refl _ _ | with_reducible refine Below.drew ?_)))
    ((go_at_call 50; refine (opRules_impl _).mono ?_; rintro r w2 ⟨rfl, hb⟩; have HB2 : Hid (Below W0.heap.size W0 w2) := bTrans ((Below.refl W0.heap.size W0).drew) hb; clear hb))
  all_goals
    go_wp2
    go_ret
    exact ⟨rfl, bTrans B0.out HB2.out⟩
set_option maxRecDepth 20000 in
set_option maxHeartbeats 8000000 in
theorem taken4_impl {n : Nat} : Calls Try.prog 44 #[.agg #[.int .i64 4, .int .i64 e1, .int .i64 e2, .int .i64 e3, .int .i64 e4, .slice xa n xc]] w fun r w' => r = .returned (.int .i64 1) ∧ Below w.heap.size w w' := by
  have i0 := ixOp4
  have i1 := fldOp0
  have i2 := fldOp1
  go_enter Try.func44, Try.ntmps44
  go_wp2_with fail
  generalize hW : w.alloc (.cells #[.int .i64 4, .int .i64 e1, .int .i64 e2, .int .i64 e3, .int .i64 e4, .slice xa n xc] 47) = W0
  have B0 : Hid (Below w.heap.size w W0) := by rw [← hW]; exact one_below
  have LT : Hid (w.heap.size < W0.heap.size) := by rw [← hW]; show _ < _; simp
  have hn := heap_alloc_new w (.cells #[.int .i64 4, .int .i64 e1, .int .i64 e2, .int .i64 e3, .int .i64 e4, .slice xa n xc] 47)
  rw [hW] at hn
  have c0 : W0.cell? ⟨w.heap.size, 0, none⟩ = some (.int .i64 4) := cell_at hn rfl
  have c1 : W0.cell? ⟨w.heap.size, 1, none⟩ = some (.int .i64 e1) := cell_at hn rfl
  have c2 : W0.cell? ⟨w.heap.size, 2, none⟩ = some (.int .i64 e2) := cell_at hn rfl
  have c3 : W0.cell? ⟨w.heap.size, 3, none⟩ = some (.int .i64 e3) := cell_at hn rfl
  have c4 : W0.cell? ⟨w.heap.size, 4, none⟩ = some (.int .i64 e4) := cell_at hn rfl
  have c5 : W0.cell? ⟨w.heap.size, 5, none⟩ = some (.slice xa n xc) := cell_at hn rfl
  have SK : Hid (∀ W, Below W0.heap.size W0 W → W.cell? ⟨w.heap.size, 0, none⟩ = some (.int .i64 4) ∧ W.cell? ⟨w.heap.size, 1, none⟩ = some (.int .i64 e1) ∧ W.cell? ⟨w.heap.size, 2, none⟩ = some (.int .i64 e2) ∧ W.cell? ⟨w.heap.size, 3, none⟩ = some (.int .i64 e3) ∧ W.cell? ⟨w.heap.size, 4, none⟩ = some (.int .i64 e4) ∧ W.cell? ⟨w.heap.size, 5, none⟩ = some (.slice xa n xc)) := fun W hb => ⟨(hb.cell (p := ⟨w.heap.size, 0, none⟩) LT.out).trans c0, (hb.cell (p := ⟨w.heap.size, 1, none⟩) LT.out).trans c1, (hb.cell (p := ⟨w.heap.size, 2, none⟩) LT.out).trans c2, (hb.cell (p := ⟨w.heap.size, 3, none⟩) LT.out).trans c3, (hb.cell (p := ⟨w.heap.size, 4, none⟩) LT.out).trans c4, (hb.cell (p := ⟨w.heap.size, 5, none⟩) LT.out).trans c5⟩
  clear hW hn
  go_region_held3 (fun w' => w'.cell? ⟨w.heap.size, 0, none⟩ = some (.int .i64 4) ∧ w'.cell? ⟨w.heap.size, 1, none⟩ = some (.int .i64 e1) ∧ w'.cell? ⟨w.heap.size, 2, none⟩ = some (.int .i64 e2) ∧ w'.cell? ⟨w.heap.size, 3, none⟩ = some (.int .i64 e3) ∧ w'.cell? ⟨w.heap.size, 4, none⟩ = some (.int .i64 e4) ∧ w'.cell? ⟨w.heap.size, 5, none⟩ = some (.slice xa n xc))
    ((refine SK.out _ ?_; (repeat first | with_reducible exact HB3.out | with_reducible exact HB2.out | with_reducible exact Below.refl _ _ | with_reducible refine Below.drew ?_)))
    ((go_at_call 50; refine (opRules_impl _).mono ?_; rintro r w2 ⟨rfl, hb⟩; have HB2 : Hid (Below W0.heap.size W0 w2) := bTrans ((Below.refl W0.heap.size W0).drew) hb; clear hb))
  all_goals
    go_wp2
    go_ret
    exact ⟨rfl, bTrans B0.out HB2.out⟩
set_option maxRecDepth 20000 in
set_option maxHeartbeats 8000000 in
theorem taken5_impl {n : Nat} : Calls Try.prog 44 #[.agg #[.int .i64 5, .int .i64 e1, .int .i64 e2, .int .i64 e3, .int .i64 e4, .slice xa n xc]] w fun r w' => r = .returned (.int .i64 2) ∧ Below w.heap.size w w' := by
  have i0 := ixOp5
  have i1 := fldOp0
  have i2 := fldOp1
  go_enter Try.func44, Try.ntmps44
  go_wp2_with fail
  generalize hW : w.alloc (.cells #[.int .i64 5, .int .i64 e1, .int .i64 e2, .int .i64 e3, .int .i64 e4, .slice xa n xc] 47) = W0
  have B0 : Hid (Below w.heap.size w W0) := by rw [← hW]; exact one_below
  have LT : Hid (w.heap.size < W0.heap.size) := by rw [← hW]; show _ < _; simp
  have hn := heap_alloc_new w (.cells #[.int .i64 5, .int .i64 e1, .int .i64 e2, .int .i64 e3, .int .i64 e4, .slice xa n xc] 47)
  rw [hW] at hn
  have c0 : W0.cell? ⟨w.heap.size, 0, none⟩ = some (.int .i64 5) := cell_at hn rfl
  have c1 : W0.cell? ⟨w.heap.size, 1, none⟩ = some (.int .i64 e1) := cell_at hn rfl
  have c2 : W0.cell? ⟨w.heap.size, 2, none⟩ = some (.int .i64 e2) := cell_at hn rfl
  have c3 : W0.cell? ⟨w.heap.size, 3, none⟩ = some (.int .i64 e3) := cell_at hn rfl
  have c4 : W0.cell? ⟨w.heap.size, 4, none⟩ = some (.int .i64 e4) := cell_at hn rfl
  have c5 : W0.cell? ⟨w.heap.size, 5, none⟩ = some (.slice xa n xc) := cell_at hn rfl
  have SK : Hid (∀ W, Below W0.heap.size W0 W → W.cell? ⟨w.heap.size, 0, none⟩ = some (.int .i64 5) ∧ W.cell? ⟨w.heap.size, 1, none⟩ = some (.int .i64 e1) ∧ W.cell? ⟨w.heap.size, 2, none⟩ = some (.int .i64 e2) ∧ W.cell? ⟨w.heap.size, 3, none⟩ = some (.int .i64 e3) ∧ W.cell? ⟨w.heap.size, 4, none⟩ = some (.int .i64 e4) ∧ W.cell? ⟨w.heap.size, 5, none⟩ = some (.slice xa n xc)) := fun W hb => ⟨(hb.cell (p := ⟨w.heap.size, 0, none⟩) LT.out).trans c0, (hb.cell (p := ⟨w.heap.size, 1, none⟩) LT.out).trans c1, (hb.cell (p := ⟨w.heap.size, 2, none⟩) LT.out).trans c2, (hb.cell (p := ⟨w.heap.size, 3, none⟩) LT.out).trans c3, (hb.cell (p := ⟨w.heap.size, 4, none⟩) LT.out).trans c4, (hb.cell (p := ⟨w.heap.size, 5, none⟩) LT.out).trans c5⟩
  clear hW hn
  go_region_held3 (fun w' => w'.cell? ⟨w.heap.size, 0, none⟩ = some (.int .i64 5) ∧ w'.cell? ⟨w.heap.size, 1, none⟩ = some (.int .i64 e1) ∧ w'.cell? ⟨w.heap.size, 2, none⟩ = some (.int .i64 e2) ∧ w'.cell? ⟨w.heap.size, 3, none⟩ = some (.int .i64 e3) ∧ w'.cell? ⟨w.heap.size, 4, none⟩ = some (.int .i64 e4) ∧ w'.cell? ⟨w.heap.size, 5, none⟩ = some (.slice xa n xc))
    ((refine SK.out _ ?_; (repeat first | with_reducible exact HB3.out | with_reducible exact HB2.out | with_reducible exact Below.refl _ _ | with_reducible refine Below.drew ?_)))
    ((go_at_call 50; refine (opRules_impl _).mono ?_; rintro r w2 ⟨rfl, hb⟩; have HB2 : Hid (Below W0.heap.size W0 w2) := bTrans ((Below.refl W0.heap.size W0).drew) hb; clear hb))
  all_goals
    go_wp2
    go_ret
    exact ⟨rfl, bTrans B0.out HB2.out⟩
set_option maxRecDepth 20000 in
set_option maxHeartbeats 8000000 in
theorem instrOk1_impl (h : IntsI w (.slice xa l.length xc) l) (hl : l.length ≤ 1048576) : Calls Try.prog 43 #[.agg #[.int .i64 1, .int .i64 e1, .int .i64 e2, .int .i64 e3, .int .i64 e4, .slice xa l.length xc]] w fun r w' => r = .returned (.bool (decide (e1 = 0) && noFun e2 e3 e4 && numsB l)) ∧ Below w.heap.size w w' := by
  have hE : ∀ (args : Array Value) (w : World), (callFunc 52 args).run Try.prog w = .ok (.enter 52 args) w := enters_of Try.func52 (by kernel_rfl) rfl
  have CJ : Hid (∀ W, Below w.heap.size w W → Calls Try.prog 52 #[.agg #[.int .i64 1, .int .i64 e1, .int .i64 e2, .int .i64 e3, .int .i64 e4, .slice xa l.length xc]] W fun r w' => r = .returned (.bool (decide (e1 = 0) && noFun e2 e3 e4 && numsB l)) ∧ Below W.heap.size W w') := fun W hb => justNums_impl (h.keep hb) hl
  have i0 := ixOp1
  have i1 := fldOp0
  have i2 := fldOp1
  clear h
  generalize (decide (e1 = 0) && noFun e2 e3 e4 && numsB l) = q at *
  generalize l.length = n at *
  go_enter Try.func43, Try.ntmps43
  go_wp2_with fail
  generalize hW : w.alloc (.cells #[.int .i64 1, .int .i64 e1, .int .i64 e2, .int .i64 e3, .int .i64 e4, .slice xa n xc] 47) = W0
  have B0 : Hid (Below w.heap.size w W0) := by rw [← hW]; exact one_below
  have LT : Hid (w.heap.size < W0.heap.size) := by rw [← hW]; show _ < _; simp
  have hn := heap_alloc_new w (.cells #[.int .i64 1, .int .i64 e1, .int .i64 e2, .int .i64 e3, .int .i64 e4, .slice xa n xc] 47)
  rw [hW] at hn
  have c0 : W0.cell? ⟨w.heap.size, 0, none⟩ = some (.int .i64 1) := cell_at hn rfl
  have c1 : W0.cell? ⟨w.heap.size, 1, none⟩ = some (.int .i64 e1) := cell_at hn rfl
  have c2 : W0.cell? ⟨w.heap.size, 2, none⟩ = some (.int .i64 e2) := cell_at hn rfl
  have c3 : W0.cell? ⟨w.heap.size, 3, none⟩ = some (.int .i64 e3) := cell_at hn rfl
  have c4 : W0.cell? ⟨w.heap.size, 4, none⟩ = some (.int .i64 e4) := cell_at hn rfl
  have c5 : W0.cell? ⟨w.heap.size, 5, none⟩ = some (.slice xa n xc) := cell_at hn rfl
  have SK : Hid (∀ W, Below W0.heap.size W0 W → W.cell? ⟨w.heap.size, 0, none⟩ = some (.int .i64 1) ∧ W.cell? ⟨w.heap.size, 1, none⟩ = some (.int .i64 e1) ∧ W.cell? ⟨w.heap.size, 2, none⟩ = some (.int .i64 e2) ∧ W.cell? ⟨w.heap.size, 3, none⟩ = some (.int .i64 e3) ∧ W.cell? ⟨w.heap.size, 4, none⟩ = some (.int .i64 e4) ∧ W.cell? ⟨w.heap.size, 5, none⟩ = some (.slice xa n xc)) := fun W hb => ⟨(hb.cell (p := ⟨w.heap.size, 0, none⟩) LT.out).trans c0, (hb.cell (p := ⟨w.heap.size, 1, none⟩) LT.out).trans c1, (hb.cell (p := ⟨w.heap.size, 2, none⟩) LT.out).trans c2, (hb.cell (p := ⟨w.heap.size, 3, none⟩) LT.out).trans c3, (hb.cell (p := ⟨w.heap.size, 4, none⟩) LT.out).trans c4, (hb.cell (p := ⟨w.heap.size, 5, none⟩) LT.out).trans c5⟩
  clear hW hn
  go_region_held3 (fun w' => w'.cell? ⟨w.heap.size, 0, none⟩ = some (.int .i64 1) ∧ w'.cell? ⟨w.heap.size, 1, none⟩ = some (.int .i64 e1) ∧ w'.cell? ⟨w.heap.size, 2, none⟩ = some (.int .i64 e2) ∧ w'.cell? ⟨w.heap.size, 3, none⟩ = some (.int .i64 e3) ∧ w'.cell? ⟨w.heap.size, 4, none⟩ = some (.int .i64 e4) ∧ w'.cell? ⟨w.heap.size, 5, none⟩ = some (.slice xa n xc))
    ((refine SK.out _ ?_; (repeat first | with_reducible exact HB3.out | with_reducible exact HB2.out | with_reducible exact Below.refl _ _ | with_reducible refine Below.drew ?_)))
    (first
      | (go_at_call 50; refine (opRules_impl _).mono ?_; rintro r w2 ⟨rfl, hb⟩; have HB2 : Hid (Below W0.heap.size W0 w2) := bTrans ((Below.refl W0.heap.size W0).drew) hb; clear hb)
      | (go_at_fn 52; refine (CJ.out _ (bTrans B0.out HB2.out)).mono ?_; rintro r w3 ⟨rfl, hb⟩; have HB3 : Hid (Below W0.heap.size W0 w3) := bTrans HB2.out hb; clear hb))
  all_goals
    go_wp2
    go_ret
    exact ⟨rfl, bTrans B0.out HB3.out⟩
set_option maxRecDepth 20000 in
set_option maxHeartbeats 8000000 in
theorem instrOk2_impl (h : IntsI w (.slice xa l.length xc) l) (hl : l.length ≤ 1048576) : Calls Try.prog 43 #[.agg #[.int .i64 2, .int .i64 e1, .int .i64 e2, .int .i64 e3, .int .i64 e4, .slice xa l.length xc]] w fun r w' => r = .returned (.bool (decide (0 ≤ e1 ∧ e1 ≤ 25) && noFun e2 e3 e4 && decide (l.length = 0))) ∧ Below w.heap.size w w' := by
  have hE : ∀ (args : Array Value) (w : World), (callFunc 53 args).run Try.prog w = .ok (.enter 53 args) w := enters_of Try.func53 (by kernel_rfl) rfl
  have CJ : Hid (∀ W, Below w.heap.size w W → Calls Try.prog 53 #[.agg #[.int .i64 2, .int .i64 e1, .int .i64 e2, .int .i64 e3, .int .i64 e4, .slice xa l.length xc]] W fun r w' => r = .returned (.bool (decide (0 ≤ e1 ∧ e1 ≤ 25) && noFun e2 e3 e4 && decide (l.length = 0))) ∧ Below W.heap.size W w') := fun W hb => justLetter_impl (h.keep hb) hl
  have i0 := ixOp2
  have i1 := fldOp0
  have i2 := fldOp1
  clear h
  generalize (decide (0 ≤ e1 ∧ e1 ≤ 25) && noFun e2 e3 e4 && decide (l.length = 0)) = q at *
  generalize l.length = n at *
  go_enter Try.func43, Try.ntmps43
  go_wp2_with fail
  generalize hW : w.alloc (.cells #[.int .i64 2, .int .i64 e1, .int .i64 e2, .int .i64 e3, .int .i64 e4, .slice xa n xc] 47) = W0
  have B0 : Hid (Below w.heap.size w W0) := by rw [← hW]; exact one_below
  have LT : Hid (w.heap.size < W0.heap.size) := by rw [← hW]; show _ < _; simp
  have hn := heap_alloc_new w (.cells #[.int .i64 2, .int .i64 e1, .int .i64 e2, .int .i64 e3, .int .i64 e4, .slice xa n xc] 47)
  rw [hW] at hn
  have c0 : W0.cell? ⟨w.heap.size, 0, none⟩ = some (.int .i64 2) := cell_at hn rfl
  have c1 : W0.cell? ⟨w.heap.size, 1, none⟩ = some (.int .i64 e1) := cell_at hn rfl
  have c2 : W0.cell? ⟨w.heap.size, 2, none⟩ = some (.int .i64 e2) := cell_at hn rfl
  have c3 : W0.cell? ⟨w.heap.size, 3, none⟩ = some (.int .i64 e3) := cell_at hn rfl
  have c4 : W0.cell? ⟨w.heap.size, 4, none⟩ = some (.int .i64 e4) := cell_at hn rfl
  have c5 : W0.cell? ⟨w.heap.size, 5, none⟩ = some (.slice xa n xc) := cell_at hn rfl
  have SK : Hid (∀ W, Below W0.heap.size W0 W → W.cell? ⟨w.heap.size, 0, none⟩ = some (.int .i64 2) ∧ W.cell? ⟨w.heap.size, 1, none⟩ = some (.int .i64 e1) ∧ W.cell? ⟨w.heap.size, 2, none⟩ = some (.int .i64 e2) ∧ W.cell? ⟨w.heap.size, 3, none⟩ = some (.int .i64 e3) ∧ W.cell? ⟨w.heap.size, 4, none⟩ = some (.int .i64 e4) ∧ W.cell? ⟨w.heap.size, 5, none⟩ = some (.slice xa n xc)) := fun W hb => ⟨(hb.cell (p := ⟨w.heap.size, 0, none⟩) LT.out).trans c0, (hb.cell (p := ⟨w.heap.size, 1, none⟩) LT.out).trans c1, (hb.cell (p := ⟨w.heap.size, 2, none⟩) LT.out).trans c2, (hb.cell (p := ⟨w.heap.size, 3, none⟩) LT.out).trans c3, (hb.cell (p := ⟨w.heap.size, 4, none⟩) LT.out).trans c4, (hb.cell (p := ⟨w.heap.size, 5, none⟩) LT.out).trans c5⟩
  clear hW hn
  go_region_held3 (fun w' => w'.cell? ⟨w.heap.size, 0, none⟩ = some (.int .i64 2) ∧ w'.cell? ⟨w.heap.size, 1, none⟩ = some (.int .i64 e1) ∧ w'.cell? ⟨w.heap.size, 2, none⟩ = some (.int .i64 e2) ∧ w'.cell? ⟨w.heap.size, 3, none⟩ = some (.int .i64 e3) ∧ w'.cell? ⟨w.heap.size, 4, none⟩ = some (.int .i64 e4) ∧ w'.cell? ⟨w.heap.size, 5, none⟩ = some (.slice xa n xc))
    ((refine SK.out _ ?_; (repeat first | with_reducible exact HB3.out | with_reducible exact HB2.out | with_reducible exact Below.refl _ _ | with_reducible refine Below.drew ?_)))
    (first
      | (go_at_call 50; refine (opRules_impl _).mono ?_; rintro r w2 ⟨rfl, hb⟩; have HB2 : Hid (Below W0.heap.size W0 w2) := bTrans ((Below.refl W0.heap.size W0).drew) hb; clear hb)
      | (go_at_fn 53; refine (CJ.out _ (bTrans B0.out HB2.out)).mono ?_; rintro r w3 ⟨rfl, hb⟩; have HB3 : Hid (Below W0.heap.size W0 w3) := bTrans HB2.out hb; clear hb))
  all_goals
    go_wp2
    go_ret
    exact ⟨rfl, bTrans B0.out HB3.out⟩
set_option maxRecDepth 20000 in
set_option maxHeartbeats 8000000 in
theorem instrOk3_impl (h : IntsI w (.slice xa l.length xc) l) (hl : l.length ≤ 1048576) : Calls Try.prog 43 #[.agg #[.int .i64 3, .int .i64 e1, .int .i64 e2, .int .i64 e3, .int .i64 e4, .slice xa l.length xc]] w fun r w' => r = .returned (.bool (decide (0 ≤ e1 ∧ e1 ≤ 25) && noFun e2 e3 e4 && decide (l.length = 0))) ∧ Below w.heap.size w w' := by
  have hE : ∀ (args : Array Value) (w : World), (callFunc 53 args).run Try.prog w = .ok (.enter 53 args) w := enters_of Try.func53 (by kernel_rfl) rfl
  have CJ : Hid (∀ W, Below w.heap.size w W → Calls Try.prog 53 #[.agg #[.int .i64 3, .int .i64 e1, .int .i64 e2, .int .i64 e3, .int .i64 e4, .slice xa l.length xc]] W fun r w' => r = .returned (.bool (decide (0 ≤ e1 ∧ e1 ≤ 25) && noFun e2 e3 e4 && decide (l.length = 0))) ∧ Below W.heap.size W w') := fun W hb => justLetter_impl (h.keep hb) hl
  have i0 := ixOp3
  have i1 := fldOp0
  have i2 := fldOp1
  clear h
  generalize (decide (0 ≤ e1 ∧ e1 ≤ 25) && noFun e2 e3 e4 && decide (l.length = 0)) = q at *
  generalize l.length = n at *
  go_enter Try.func43, Try.ntmps43
  go_wp2_with fail
  generalize hW : w.alloc (.cells #[.int .i64 3, .int .i64 e1, .int .i64 e2, .int .i64 e3, .int .i64 e4, .slice xa n xc] 47) = W0
  have B0 : Hid (Below w.heap.size w W0) := by rw [← hW]; exact one_below
  have LT : Hid (w.heap.size < W0.heap.size) := by rw [← hW]; show _ < _; simp
  have hn := heap_alloc_new w (.cells #[.int .i64 3, .int .i64 e1, .int .i64 e2, .int .i64 e3, .int .i64 e4, .slice xa n xc] 47)
  rw [hW] at hn
  have c0 : W0.cell? ⟨w.heap.size, 0, none⟩ = some (.int .i64 3) := cell_at hn rfl
  have c1 : W0.cell? ⟨w.heap.size, 1, none⟩ = some (.int .i64 e1) := cell_at hn rfl
  have c2 : W0.cell? ⟨w.heap.size, 2, none⟩ = some (.int .i64 e2) := cell_at hn rfl
  have c3 : W0.cell? ⟨w.heap.size, 3, none⟩ = some (.int .i64 e3) := cell_at hn rfl
  have c4 : W0.cell? ⟨w.heap.size, 4, none⟩ = some (.int .i64 e4) := cell_at hn rfl
  have c5 : W0.cell? ⟨w.heap.size, 5, none⟩ = some (.slice xa n xc) := cell_at hn rfl
  have SK : Hid (∀ W, Below W0.heap.size W0 W → W.cell? ⟨w.heap.size, 0, none⟩ = some (.int .i64 3) ∧ W.cell? ⟨w.heap.size, 1, none⟩ = some (.int .i64 e1) ∧ W.cell? ⟨w.heap.size, 2, none⟩ = some (.int .i64 e2) ∧ W.cell? ⟨w.heap.size, 3, none⟩ = some (.int .i64 e3) ∧ W.cell? ⟨w.heap.size, 4, none⟩ = some (.int .i64 e4) ∧ W.cell? ⟨w.heap.size, 5, none⟩ = some (.slice xa n xc)) := fun W hb => ⟨(hb.cell (p := ⟨w.heap.size, 0, none⟩) LT.out).trans c0, (hb.cell (p := ⟨w.heap.size, 1, none⟩) LT.out).trans c1, (hb.cell (p := ⟨w.heap.size, 2, none⟩) LT.out).trans c2, (hb.cell (p := ⟨w.heap.size, 3, none⟩) LT.out).trans c3, (hb.cell (p := ⟨w.heap.size, 4, none⟩) LT.out).trans c4, (hb.cell (p := ⟨w.heap.size, 5, none⟩) LT.out).trans c5⟩
  clear hW hn
  go_region_held3 (fun w' => w'.cell? ⟨w.heap.size, 0, none⟩ = some (.int .i64 3) ∧ w'.cell? ⟨w.heap.size, 1, none⟩ = some (.int .i64 e1) ∧ w'.cell? ⟨w.heap.size, 2, none⟩ = some (.int .i64 e2) ∧ w'.cell? ⟨w.heap.size, 3, none⟩ = some (.int .i64 e3) ∧ w'.cell? ⟨w.heap.size, 4, none⟩ = some (.int .i64 e4) ∧ w'.cell? ⟨w.heap.size, 5, none⟩ = some (.slice xa n xc))
    ((refine SK.out _ ?_; (repeat first | with_reducible exact HB3.out | with_reducible exact HB2.out | with_reducible exact Below.refl _ _ | with_reducible refine Below.drew ?_)))
    (first
      | (go_at_call 50; refine (opRules_impl _).mono ?_; rintro r w2 ⟨rfl, hb⟩; have HB2 : Hid (Below W0.heap.size W0 w2) := bTrans ((Below.refl W0.heap.size W0).drew) hb; clear hb)
      | (go_at_fn 53; refine (CJ.out _ (bTrans B0.out HB2.out)).mono ?_; rintro r w3 ⟨rfl, hb⟩; have HB3 : Hid (Below W0.heap.size W0 w3) := bTrans HB2.out hb; clear hb))
  all_goals
    go_wp2
    go_ret
    exact ⟨rfl, bTrans B0.out HB3.out⟩
set_option maxRecDepth 20000 in
set_option maxHeartbeats 8000000 in
theorem instrOk4_impl (h : IntsI w (.slice xa l.length xc) l) (hl : l.length ≤ 1048576) : Calls Try.prog 43 #[.agg #[.int .i64 4, .int .i64 e1, .int .i64 e2, .int .i64 e3, .int .i64 e4, .slice xa l.length xc]] w fun r w' => r = .returned (.bool (decide (e1 = 0) && funOneB e2 e3 e4 && decide (l.length = 0))) ∧ Below w.heap.size w w' := by
  have hE : ∀ (args : Array Value) (w : World), (callFunc 54 args).run Try.prog w = .ok (.enter 54 args) w := enters_of Try.func54 (by kernel_rfl) rfl
  have CJ : Hid (∀ W, Below w.heap.size w W → Calls Try.prog 54 #[.agg #[.int .i64 4, .int .i64 e1, .int .i64 e2, .int .i64 e3, .int .i64 e4, .slice xa l.length xc]] W fun r w' => r = .returned (.bool (decide (e1 = 0) && funOneB e2 e3 e4 && decide (l.length = 0))) ∧ Below W.heap.size W w') := fun W hb => justFunOne_impl (h.keep hb) hl
  have i0 := ixOp4
  have i1 := fldOp0
  have i2 := fldOp1
  clear h
  generalize (decide (e1 = 0) && funOneB e2 e3 e4 && decide (l.length = 0)) = q at *
  generalize l.length = n at *
  go_enter Try.func43, Try.ntmps43
  go_wp2_with fail
  generalize hW : w.alloc (.cells #[.int .i64 4, .int .i64 e1, .int .i64 e2, .int .i64 e3, .int .i64 e4, .slice xa n xc] 47) = W0
  have B0 : Hid (Below w.heap.size w W0) := by rw [← hW]; exact one_below
  have LT : Hid (w.heap.size < W0.heap.size) := by rw [← hW]; show _ < _; simp
  have hn := heap_alloc_new w (.cells #[.int .i64 4, .int .i64 e1, .int .i64 e2, .int .i64 e3, .int .i64 e4, .slice xa n xc] 47)
  rw [hW] at hn
  have c0 : W0.cell? ⟨w.heap.size, 0, none⟩ = some (.int .i64 4) := cell_at hn rfl
  have c1 : W0.cell? ⟨w.heap.size, 1, none⟩ = some (.int .i64 e1) := cell_at hn rfl
  have c2 : W0.cell? ⟨w.heap.size, 2, none⟩ = some (.int .i64 e2) := cell_at hn rfl
  have c3 : W0.cell? ⟨w.heap.size, 3, none⟩ = some (.int .i64 e3) := cell_at hn rfl
  have c4 : W0.cell? ⟨w.heap.size, 4, none⟩ = some (.int .i64 e4) := cell_at hn rfl
  have c5 : W0.cell? ⟨w.heap.size, 5, none⟩ = some (.slice xa n xc) := cell_at hn rfl
  have SK : Hid (∀ W, Below W0.heap.size W0 W → W.cell? ⟨w.heap.size, 0, none⟩ = some (.int .i64 4) ∧ W.cell? ⟨w.heap.size, 1, none⟩ = some (.int .i64 e1) ∧ W.cell? ⟨w.heap.size, 2, none⟩ = some (.int .i64 e2) ∧ W.cell? ⟨w.heap.size, 3, none⟩ = some (.int .i64 e3) ∧ W.cell? ⟨w.heap.size, 4, none⟩ = some (.int .i64 e4) ∧ W.cell? ⟨w.heap.size, 5, none⟩ = some (.slice xa n xc)) := fun W hb => ⟨(hb.cell (p := ⟨w.heap.size, 0, none⟩) LT.out).trans c0, (hb.cell (p := ⟨w.heap.size, 1, none⟩) LT.out).trans c1, (hb.cell (p := ⟨w.heap.size, 2, none⟩) LT.out).trans c2, (hb.cell (p := ⟨w.heap.size, 3, none⟩) LT.out).trans c3, (hb.cell (p := ⟨w.heap.size, 4, none⟩) LT.out).trans c4, (hb.cell (p := ⟨w.heap.size, 5, none⟩) LT.out).trans c5⟩
  clear hW hn
  go_region_held3 (fun w' => w'.cell? ⟨w.heap.size, 0, none⟩ = some (.int .i64 4) ∧ w'.cell? ⟨w.heap.size, 1, none⟩ = some (.int .i64 e1) ∧ w'.cell? ⟨w.heap.size, 2, none⟩ = some (.int .i64 e2) ∧ w'.cell? ⟨w.heap.size, 3, none⟩ = some (.int .i64 e3) ∧ w'.cell? ⟨w.heap.size, 4, none⟩ = some (.int .i64 e4) ∧ w'.cell? ⟨w.heap.size, 5, none⟩ = some (.slice xa n xc))
    ((refine SK.out _ ?_; (repeat first | with_reducible exact HB3.out | with_reducible exact HB2.out | with_reducible exact Below.refl _ _ | with_reducible refine Below.drew ?_)))
    (first
      | (go_at_call 50; refine (opRules_impl _).mono ?_; rintro r w2 ⟨rfl, hb⟩; have HB2 : Hid (Below W0.heap.size W0 w2) := bTrans ((Below.refl W0.heap.size W0).drew) hb; clear hb)
      | (go_at_fn 54; refine (CJ.out _ (bTrans B0.out HB2.out)).mono ?_; rintro r w3 ⟨rfl, hb⟩; have HB3 : Hid (Below W0.heap.size W0 w3) := bTrans HB2.out hb; clear hb))
  all_goals
    go_wp2
    go_ret
    exact ⟨rfl, bTrans B0.out HB3.out⟩
set_option maxRecDepth 20000 in
set_option maxHeartbeats 8000000 in
theorem instrOk5_impl (h : IntsI w (.slice xa l.length xc) l) (hl : l.length ≤ 1048576) : Calls Try.prog 43 #[.agg #[.int .i64 5, .int .i64 e1, .int .i64 e2, .int .i64 e3, .int .i64 e4, .slice xa l.length xc]] w fun r w' => r = .returned (.bool (decide (e1 = 0) && funTwoB e2 e3 e4 && decide (l.length = 0))) ∧ Below w.heap.size w w' := by
  have hE : ∀ (args : Array Value) (w : World), (callFunc 55 args).run Try.prog w = .ok (.enter 55 args) w := enters_of Try.func55 (by kernel_rfl) rfl
  have CJ : Hid (∀ W, Below w.heap.size w W → Calls Try.prog 55 #[.agg #[.int .i64 5, .int .i64 e1, .int .i64 e2, .int .i64 e3, .int .i64 e4, .slice xa l.length xc]] W fun r w' => r = .returned (.bool (decide (e1 = 0) && funTwoB e2 e3 e4 && decide (l.length = 0))) ∧ Below W.heap.size W w') := fun W hb => justFunTwo_impl (h.keep hb) hl
  have i0 := ixOp5
  have i1 := fldOp0
  have i2 := fldOp1
  clear h
  generalize (decide (e1 = 0) && funTwoB e2 e3 e4 && decide (l.length = 0)) = q at *
  generalize l.length = n at *
  go_enter Try.func43, Try.ntmps43
  go_wp2_with fail
  generalize hW : w.alloc (.cells #[.int .i64 5, .int .i64 e1, .int .i64 e2, .int .i64 e3, .int .i64 e4, .slice xa n xc] 47) = W0
  have B0 : Hid (Below w.heap.size w W0) := by rw [← hW]; exact one_below
  have LT : Hid (w.heap.size < W0.heap.size) := by rw [← hW]; show _ < _; simp
  have hn := heap_alloc_new w (.cells #[.int .i64 5, .int .i64 e1, .int .i64 e2, .int .i64 e3, .int .i64 e4, .slice xa n xc] 47)
  rw [hW] at hn
  have c0 : W0.cell? ⟨w.heap.size, 0, none⟩ = some (.int .i64 5) := cell_at hn rfl
  have c1 : W0.cell? ⟨w.heap.size, 1, none⟩ = some (.int .i64 e1) := cell_at hn rfl
  have c2 : W0.cell? ⟨w.heap.size, 2, none⟩ = some (.int .i64 e2) := cell_at hn rfl
  have c3 : W0.cell? ⟨w.heap.size, 3, none⟩ = some (.int .i64 e3) := cell_at hn rfl
  have c4 : W0.cell? ⟨w.heap.size, 4, none⟩ = some (.int .i64 e4) := cell_at hn rfl
  have c5 : W0.cell? ⟨w.heap.size, 5, none⟩ = some (.slice xa n xc) := cell_at hn rfl
  have SK : Hid (∀ W, Below W0.heap.size W0 W → W.cell? ⟨w.heap.size, 0, none⟩ = some (.int .i64 5) ∧ W.cell? ⟨w.heap.size, 1, none⟩ = some (.int .i64 e1) ∧ W.cell? ⟨w.heap.size, 2, none⟩ = some (.int .i64 e2) ∧ W.cell? ⟨w.heap.size, 3, none⟩ = some (.int .i64 e3) ∧ W.cell? ⟨w.heap.size, 4, none⟩ = some (.int .i64 e4) ∧ W.cell? ⟨w.heap.size, 5, none⟩ = some (.slice xa n xc)) := fun W hb => ⟨(hb.cell (p := ⟨w.heap.size, 0, none⟩) LT.out).trans c0, (hb.cell (p := ⟨w.heap.size, 1, none⟩) LT.out).trans c1, (hb.cell (p := ⟨w.heap.size, 2, none⟩) LT.out).trans c2, (hb.cell (p := ⟨w.heap.size, 3, none⟩) LT.out).trans c3, (hb.cell (p := ⟨w.heap.size, 4, none⟩) LT.out).trans c4, (hb.cell (p := ⟨w.heap.size, 5, none⟩) LT.out).trans c5⟩
  clear hW hn
  go_region_held3 (fun w' => w'.cell? ⟨w.heap.size, 0, none⟩ = some (.int .i64 5) ∧ w'.cell? ⟨w.heap.size, 1, none⟩ = some (.int .i64 e1) ∧ w'.cell? ⟨w.heap.size, 2, none⟩ = some (.int .i64 e2) ∧ w'.cell? ⟨w.heap.size, 3, none⟩ = some (.int .i64 e3) ∧ w'.cell? ⟨w.heap.size, 4, none⟩ = some (.int .i64 e4) ∧ w'.cell? ⟨w.heap.size, 5, none⟩ = some (.slice xa n xc))
    ((refine SK.out _ ?_; (repeat first | with_reducible exact HB3.out | with_reducible exact HB2.out | with_reducible exact Below.refl _ _ | with_reducible refine Below.drew ?_)))
    (first
      | (go_at_call 50; refine (opRules_impl _).mono ?_; rintro r w2 ⟨rfl, hb⟩; have HB2 : Hid (Below W0.heap.size W0 w2) := bTrans ((Below.refl W0.heap.size W0).drew) hb; clear hb)
      | (go_at_fn 55; refine (CJ.out _ (bTrans B0.out HB2.out)).mono ?_; rintro r w3 ⟨rfl, hb⟩; have HB3 : Hid (Below W0.heap.size W0 w3) := bTrans HB2.out hb; clear hb))
  all_goals
    go_wp2
    go_ret
    exact ⟨rfl, bTrans B0.out HB3.out⟩
set_option maxRecDepth 20000 in
set_option maxHeartbeats 8000000 in
theorem instrOk0_impl {e0 : Int} {n : Nat} (h : ¬ (1 ≤ e0 ∧ e0 ≤ 5)) : Calls Try.prog 43 #[.agg #[.int .i64 e0, .int .i64 e1, .int .i64 e2, .int .i64 e3, .int .i64 e4, .slice xa n xc]] w fun r w' => r = .returned (.bool false) ∧ Below w.heap.size w w' := by
  by_cases h1 : 1 ≤ e0
  · have h5 : ¬ e0 ≤ 5 := fun g => h ⟨h1, g⟩
    have g1 : decide (1 ≤ e0) = true := decide_eq_true h1
    have g5 : decide (e0 ≤ 5) = false := decide_eq_false h5
    clear h
    go_enter Try.func43, Try.ntmps43
    go_wp2_with fail
    go_quiet (fail)
    go_wp2
    go_ret
    exact ⟨rfl, bDrewN one_below _⟩
  · have g1 : decide (1 ≤ e0) = false := decide_eq_false h1
    clear h
    go_enter Try.func43, Try.ntmps43
    go_wp2_with fail
    go_quiet (fail)
    go_wp2
    go_ret
    exact ⟨rfl, bDrewN one_below _⟩
end
theorem insB_out {e : Nat → Int} {l : List Int} (h : ¬ (1 ≤ e 0 ∧ e 0 ≤ 5)) : insB e l = false := by unfold insB; rw [if_neg (by omega), if_neg (by omega), if_neg (by omega), if_neg (by omega)]
/-- The program's instrOk. -/
theorem instrOk_impl (e : Nat → Int) {l : List Int} {w : World} {xa : Option Addr} {xc : Nat} (h : IntsI w (.slice xa l.length xc) l) (hl : l.length ≤ 1048576) : Calls Try.prog 43 #[.agg #[.int .i64 (e 0), .int .i64 (e 1), .int .i64 (e 2), .int .i64 (e 3), .int .i64 (e 4), .slice xa l.length xc]] w fun r w' => r = .returned (.bool (insB e l)) ∧ Below w.heap.size w w' := by
  by_cases hr : 1 ≤ e 0 ∧ e 0 ≤ 5
  · unfold insB
    by_cases h1 : e 0 = 1
    · rw [if_pos h1, h1]; exact instrOk1_impl h hl
    rw [if_neg h1]
    by_cases h2 : e 0 = 2
    · rw [if_pos (.inl h2), h2]; exact instrOk2_impl h hl
    by_cases h3 : e 0 = 3
    · rw [if_pos (.inr h3), h3]; exact instrOk3_impl h hl
    rw [if_neg (fun h => h.elim h2 h3)]
    by_cases h4 : e 0 = 4
    · rw [if_pos h4, h4]; exact instrOk4_impl h hl
    rw [if_neg h4]
    have h5 : e 0 = 5 := by omega
    rw [if_pos h5, h5]; exact instrOk5_impl h hl
  · rw [insB_out hr]; exact instrOk0_impl hr
theorem insB_in {e : Nat → Int} {l : List Int} (h : insB e l = true) : 1 ≤ e 0 ∧ e 0 ≤ 5 := by
  by_cases hr : 1 ≤ e 0 ∧ e 0 ≤ 5
  · exact hr
  · rw [insB_out hr] at h; exact absurd h (by decide)
/-- takenFromStack. -/
theorem taken_impl {e0 e1 e2 e3 e4 : Int} {n : Nat} {w : World} {xa : Option Addr} {xc : Nat} (h : 1 ≤ e0 ∧ e0 ≤ 5) : Calls Try.prog 44 #[.agg #[.int .i64 e0, .int .i64 e1, .int .i64 e2, .int .i64 e3, .int .i64 e4, .slice xa n xc]] w fun r w' => r = .returned (.int .i64 (takesN e0)) ∧ Below w.heap.size w w' := by
  by_cases h1 : e0 = 1
  · subst h1; exact taken1_impl
  by_cases h2 : e0 = 2
  · subst h2; exact taken2_impl
  by_cases h3 : e0 = 3
  · subst h3; exact taken3_impl
  by_cases h4 : e0 = 4
  · subst h4; exact taken4_impl
  have h5 : e0 = 5 := by omega
  subst h5; exact taken5_impl
end Go.Proofs.Ythmmeapokhfdiaa
namespace Go.Proofs.Ythmmeapokhfdiaa
open Go.RowKit
set_option linter.unusedVariables false
set_option linter.unusedSimpArgs false
theorem mx_alt (a b : Int) : mx a b = if a < b then b else a := by unfold mx; split <;> split <;> omega
/-- What holds where the label is jumped to. -/
def AtWrong (w : World) (Q : Int) (a' : Act) (w' : World) : Prop := Q = 0 ∧ Below w.heap.size w w' ∧ ∃ y0 y1 y2 y3 y4 y5 y6 y7 y8 y9 y10 y11 y12 y13 y14 y15 y16 y17 y18 y19 y20 y21 y22 y23 y24 y25 y26 y27 y28 y29 y30 y31 y32 y33 y34 y35 y36 : Value, a' = { tmps := #[y0, y1, y2, y3, y4, y5, y6, y7, y8, y9, y10, y11, y12, y13, y14, y15, y16, y17, y18, y19, y20, y21, y22, y23, y24, y25, y26, y27, y28, y29, y30, y31, y32, y33, y34, y35, y36], defers := [] }
set_option maxRecDepth 20000 in
set_option maxHeartbeats 8000000 in
/-- The program's CodeDeep. -/
theorem deep_impl {w : World} {v : Value} {n : Nat} {E : Nat → Nat → Int} {N : Nat → List Int} (h : InsI w v n E N) (hl : ∀ i, (N i).length ≤ 1048576) (hn : n ≤ 1048576) :
    Calls Try.prog 35 #[v] w fun r w' => r = .returned (.int .i64 (deepV n E N)) ∧ Below w.heap.size w w' := by
  have H : Hid (InsI w v n E N) := h
  have HL : Hid (∀ i, (N i).length ≤ 1048576) := hl
  clear hl
  obtain ⟨a, c, rfl, _⟩ := h
  have HBAD : Hid (¬ codeP n E N → deepV n E N = 0) := fun h => by unfold deepV; rw [codeB_false h]; rfl
  have HGOOD : Hid (codeP n E N → deepV n E N = mxDep E n) := fun h => by unfold deepV; rw [codeB_true h]; rfl
  generalize deepV n E N = Q at *
  go_enter Try.func35, Try.ntmps35
  go_wp2
  refine wp_scope_jumps 0 (AtWrong w Q) (fun _ _ => 0) rfl ?_ ?_
  case refine_2 =>
    rintro a' w' ⟨hq, hb, y0, y1, y2, y3, y4, y5, y6, y7, y8, y9, y10, y11, y12, y13, y14, y15, y16, y17, y18, y19, y20, y21, y22, y23, y24, y25, y26, y27, y28, y29, y30, y31, y32, y33, y34, y35, y36, rfl⟩
    have HQ : Hid (Q = 0) := hq
    have HB : Hid (Below w.heap.size w w') := hb
    clear hq hb
    go_wp2
    simp only [Exit.jump]
    go_ret
    exact ⟨by rw [HQ.out]; rfl, HB.out⟩
  by_cases h60 : 60 < (n : Int)
  · have QV : Hid (Q = 0) := HBAD.out fun h => by have := h.2.1; omega
    go_wp2
    go_step3
    exact ⟨rfl, QV.out, Below.refl _ _, _, _, _, _, _, _, _, _, _, _, _, _, _, _, _, _, _, _, _, _, _, _, _, _, _, _, _, _, _, _, _, _, _, _, _, _, _, rfl⟩
  have n60 : n ≤ 60 := by omega
  go_wp2_with fail
  go_loopw [3, 4, 12] (fun d m i w' => ∃ k : Nat, k ≤ n ∧ d = .int .i64 (dep E k) ∧ m = .int .i64 (mxDep E k) ∧ i = .int .i64 (k : Int) ∧ (∀ i, i < k → insB (E i) (N i) = true) ∧ (∀ i, i < k → takesN (E i 0) ≤ dep E i) ∧ Below w.heap.size w w') (fun _ _ i _ => n - (intOf i).toNat)
  case atStart => exact ⟨0, by omega, rfl, rfl, rfl, fun i hi => absurd hi (by omega), fun i hi => absurd hi (by omega), Below.refl _ _⟩
  case round =>
    obtain ⟨k, hk, rfl, rfl, rfl, hA, hT, hb⟩ := hrel
    have HA : Hid (∀ i, i < k → insB (E i) (N i) = true) := hA
    have HT : Hid (∀ i, i < k → takesN (E i 0) ≤ dep E i) := hT
    have HB : Hid (Below w.heap.size w wr) := hb
    clear hA hT hb
    by_cases hlt : (k : Int) < (n : Int)
    · have L : k < n := by omega
      obtain ⟨o, off, xa, xc, rfl, ho, ⟨p0, p1, p2, p3, p4, p5⟩, ar⟩ := (H.out.keep HB.out).at L
      have CI : Hid (∀ W, Below wr.heap.size wr W → Calls Try.prog 43 #[.agg #[.int .i64 (E k 0), .int .i64 (E k 1), .int .i64 (E k 2), .int .i64 (E k 3), .int .i64 (E k 4), .slice xa (N k).length xc]] W fun r w' => r = .returned (.bool (insB (E k) (N k))) ∧ Below W.heap.size W w') := fun W hb => instrOk_impl (E k) (ar.keep hb) (HL.out k)
      have CT : Hid (insB (E k) (N k) = true → ∀ W, Calls Try.prog 44 #[.agg #[.int .i64 (E k 0), .int .i64 (E k 1), .int .i64 (E k 2), .int .i64 (E k 3), .int .i64 (E k 4), .slice xa (N k).length xc]] W fun r w' => r = .returned (.int .i64 (takesN (E k 0))) ∧ Below W.heap.size W w') := fun h W => taken_impl (insB_in h)
      have NX : Hid (insB (E k) (N k) = true → ∀ i, i < k + 1 → insB (E i) (N i) = true) := fun h i hi => by
        by_cases e : i = k
        · rw [e]; exact h
        · exact HA.out i (by omega)
      have NT : Hid (takesN (E k 0) ≤ dep E k → ∀ i, i < k + 1 → takesN (E i 0) ≤ dep E i) := fun h i hi => by
        by_cases e : i = k
        · rw [e]; exact h
        · exact HT.out i (by omega)
      have BX : Hid (insB (E k) (N k) = false → Q = 0) := fun h => HBAD.out fun g => by have := g.2.2.1 k L; rw [h] at this; exact absurd this (by decide)
      have BT : Hid (dep E k < takesN (E k 0) → Q = 0) := fun h => HBAD.out fun g => by have := g.2.2.2.1 k L; omega
      obtain ⟨D1, hD1⟩ : ∃ D1, D1 = dep E (k + 1) := ⟨_, rfl⟩
      obtain ⟨M1, hM1⟩ : ∃ M1, M1 = mxDep E (k + 1) := ⟨_, rfl⟩
      have HD1 : Hid (D1 = dep E (k + 1)) := hD1
      have HM1 : Hid (M1 = mxDep E (k + 1)) := hM1
      have ED : D1 = dep E k + (1 - takesN (E k 0)) := hD1
      have EM : M1 = mx (mxDep E k) D1 := by rw [hM1, hD1]; rfl
      clear hD1 hM1
      have t0 := takesN_cases (E k 0)
      have d0 := (dep_pos HT.out).1
      have d1 := dep_le E k
      clear ho ar
      generalize insB (E k) (N k) = q at *
      generalize takesN (E k 0) = z at *
      generalize E k 0 = q0 at *
      generalize E k 1 = q1 at *
      generalize E k 2 = q2 at *
      generalize E k 3 = q3 at *
      generalize E k 4 = q4 at *
      generalize (N k).length = nl at *
      generalize dep E k = D at *
      generalize mxDep E k = M at *
      go_wp2_with fail
      refine (CI.out _ (bAlloc (Below.refl _ _) _)).mono ?_
      rintro r w2 ⟨rfl, hb⟩
      have B2 : Hid (Below w.heap.size w w2) := bTrans (bAlloc HB.out _) hb
      have hnew := heap_alloc_new wr (.cells #[.int .i64 q0, .int .i64 q1, .int .i64 q2, .int .i64 q3, .int .i64 q4, .slice xa nl xc] 47)
      have BK2 : Hid (w2.heap[wr.heap.size]? = some (.cells #[.int .i64 q0, .int .i64 q1, .int .i64 q2, .int .i64 q3, .int .i64 q4, .slice xa nl xc] 47 (0, 0))) := by show _ = _; rw [hb.block _ (by simp)]; exact hnew
      clear hb hnew p0 p1 p2 p3 p4 p5
      cases q
      · have QV : Hid (Q = 0) := BX.out rfl
        go_wp2
        go_step3
        exact ⟨rfl, QV.out, B2.out, _, _, _, _, _, _, _, _, _, _, _, _, _, _, _, _, _, _, _, _, _, _, _, _, _, _, _, _, _, _, _, _, _, _, _, _, _, rfl⟩
      · have NI : Hid (∀ i, i < k + 1 → insB (E i) (N i) = true) := NX.out rfl
        have CT' : Hid (∀ W, Calls Try.prog 44 #[.agg #[.int .i64 q0, .int .i64 q1, .int .i64 q2, .int .i64 q3, .int .i64 q4, .slice xa nl xc]] W fun r w' => r = .returned (.int .i64 z) ∧ Below W.heap.size W w') := CT.out rfl
        clear NX CT BX
        have c0 : w2.cell? ⟨wr.heap.size, 0, none⟩ = some (.int .i64 q0) := cell_at BK2.out rfl
        have c1 : w2.cell? ⟨wr.heap.size, 1, none⟩ = some (.int .i64 q1) := cell_at BK2.out rfl
        have c2 : w2.cell? ⟨wr.heap.size, 2, none⟩ = some (.int .i64 q2) := cell_at BK2.out rfl
        have c3 : w2.cell? ⟨wr.heap.size, 3, none⟩ = some (.int .i64 q3) := cell_at BK2.out rfl
        have c4 : w2.cell? ⟨wr.heap.size, 4, none⟩ = some (.int .i64 q4) := cell_at BK2.out rfl
        have c5 : w2.cell? ⟨wr.heap.size, 5, none⟩ = some (.slice xa nl xc) := cell_at BK2.out rfl
        go_wp2_with fail
        refine (CT'.out _).mono ?_
        rintro r w3 ⟨rfl, hb⟩
        have B3 : Hid (Below w.heap.size w w3) := bTrans B2.out hb
        have BK3 : Hid (w3.heap[wr.heap.size]? = some (.cells #[.int .i64 q0, .int .i64 q1, .int .i64 q2, .int .i64 q3, .int .i64 q4, .slice xa nl xc] 47 (0, 0))) := by show _ = _; rw [hb.block _ (lt_of_heapA BK2.out)]; exact BK2.out
        clear hb c0 c1 c2 c3 c4 c5 BK2
        by_cases hz : D < z
        · have QV : Hid (Q = 0) := BT.out hz
          go_wp2
          go_step3
          exact ⟨rfl, QV.out, B3.out, _, _, _, _, _, _, _, _, _, _, _, _, _, _, _, _, _, _, _, _, _, _, _, _, _, _, _, _, _, _, _, _, _, _, _, _, _, rfl⟩
        · have NU : Hid (∀ i, i < k + 1 → takesN (E i 0) ≤ dep E i) := NT.out (by omega)
          clear NT BT
          have c0 : w3.cell? ⟨wr.heap.size, 0, none⟩ = some (.int .i64 q0) := cell_at BK3.out rfl
          have c1 : w3.cell? ⟨wr.heap.size, 1, none⟩ = some (.int .i64 q1) := cell_at BK3.out rfl
          have c2 : w3.cell? ⟨wr.heap.size, 2, none⟩ = some (.int .i64 q2) := cell_at BK3.out rfl
          have c3 : w3.cell? ⟨wr.heap.size, 3, none⟩ = some (.int .i64 q3) := cell_at BK3.out rfl
          have c4 : w3.cell? ⟨wr.heap.size, 4, none⟩ = some (.int .i64 q4) := cell_at BK3.out rfl
          have c5 : w3.cell? ⟨wr.heap.size, 5, none⟩ = some (.slice xa nl xc) := cell_at BK3.out rfl
          have w1 : IntKind.i64.wrap (1 - z) = 1 - z := by rw [IntKind.wrap_i64]; omega
          have w2 : IntKind.i64.wrap (D + (1 - z)) = D1 := by rw [ED, IntKind.wrap_i64]; omega
          go_wp2_with fail
          refine (CT'.out _).mono ?_
          rintro r w4 ⟨rfl, hb⟩
          have B4 : Hid (Below w.heap.size w w4) := bTrans B3.out hb
          clear hb c0 c1 c2 c3 c4 c5 BK3
          go_wp2
          all_goals
            go_roundw
            case rel => exact ⟨k + 1, by omega, by rw [← HD1.out, ED], by rw [← HM1.out, EM, ED, mx_alt], by go_num, NI.out, NU.out, B4.out⟩
            case measure => simp [intOf]; omega
    · obtain rfl : k = n := by omega
      by_cases hd : dep E k = 1
      · have QV : Hid (∀ h : 1 ≤ k, Q = mxDep E k) := fun h => HGOOD.out ⟨h, n60, HA.out, HT.out, hd⟩
        have h1 : 1 ≤ k := by
          cases k with
          | zero => exact absurd hd (by simp [dep])
          | succ k => omega
        have QW : Hid (Q = mxDep E k) := QV.out h1
        clear QV
        have b1 : (dep E k == 1) = true := by simpa using hd
        go_wp2
        simp only [Exit.jump]
        go_ret
        exact ⟨by rw [QW.out]; rfl, HB.out⟩
      · have QV : Hid (Q = 0) := HBAD.out fun h => hd h.2.2.2.2
        have b1 : (dep E k == 1) = false := by simpa using hd
        go_wp2
        go_step3
        go_wp2
        simp only [Exit.jump]
        go_ret
        exact ⟨by rw [QV.out]; rfl, HB.out⟩
set_option maxRecDepth 20000 in
set_option maxHeartbeats 4000000 in
/-- The program's CodeOk. -/
theorem codeOk_impl {w : World} {v : Value} {n : Nat} {E : Nat → Nat → Int} {N : Nat → List Int} (h : InsI w v n E N) (hl : ∀ i, (N i).length ≤ 1048576) (hn : n ≤ 1048576) :
    Calls Try.prog 21 #[v] w fun r w' => r = .returned (.bool (codeB n E N)) ∧ Below w.heap.size w w' := by
  have CD : Hid (Calls Try.prog 35 #[v] w fun r w' => r = .returned (.int .i64 (deepV n E N)) ∧ Below w.heap.size w w') := deep_impl h hl hn
  have E1 : Hid (decide (0 < deepV n E N) = codeB n E N) := deep_pos
  clear hl
  obtain ⟨a, c, rfl, _⟩ := h
  generalize deepV n E N = D at *
  generalize codeB n E N = q at *
  go_enter Try.func21, Try.ntmps21
  go_wp2_with fail
  refine CD.out.mono ?_
  rintro r w1 ⟨rfl, hb⟩
  have B1 : Hid (Below w.heap.size w w1) := hb
  clear hb
  go_wp2
  go_ret
  exact ⟨by rw [← E1.out]; rfl, B1.out⟩
end Go.Proofs.Ythmmeapokhfdiaa
namespace Go.Proofs.Ythmmeapokhfdiaa
open Go.RowKit
set_option linter.unusedVariables false
set_option linter.unusedSimpArgs false
theorem cnt_le {l : List Int} (h : isB l) : cnt l ≤ 65535 := by
  have a := isB_getD h 5
  have b := isB_getD h 6
  unfold cnt; omega
theorem insB2_le {l : List Int} (h : isB l) : (insB2 l).length ≤ 65535 := by
  unfold insB2; split
  · rw [numsW_len]; exact cnt_le h
  · simp
theorem rdN_le {b : List Int} (h : isB b) (i : Nat) : (rdN b i).length ≤ 65535 := insB2_le (isB_drop h _)
/-- firstInstr, whatever the bytes. -/
theorem first_some {l : List Int} {g off n c m : Nat} {w : World} (h : Bys w (some ⟨g, off, none⟩) l) (hb : isB l) (hn : l.length = n) (hc : n ≤ c) (hm : n ≤ 1048576) (hcm : c ≤ 9223372036854775807) (hi : insLen l = some m) :
    Calls Try.prog 27 #[.slice (some ⟨g, off, none⟩) n c] w fun r w' => FirstPost w g n c m l r w' := by
  unfold insLen at hi
  rw [hn] at hi
  split at hi
  · cases hi
  split at hi
  · split at hi
    · cases hi
    split at hi
    · cases hi
    · cases hi
      exact first_nums h hb hn hc hm hcm (by omega) (by assumption) (by omega) (by omega)
  · cases hi
    exact first_plain h hb hn hc hm hcm (by omega) (by assumption)
theorem first_none {l : List Int} {g off n c : Nat} {w : World} (h : Bys w (some ⟨g, off, none⟩) l) (hb : isB l) (hn : l.length = n) (hc : n ≤ c) (hm : n ≤ 1048576) (hcm : c ≤ 9223372036854775807) (hi : insLen l = none) :
    Calls Try.prog 27 #[.slice (some ⟨g, off, none⟩) n c] w fun r w' => EndPost w r w' := by
  unfold insLen at hi
  rw [hn] at hi
  split at hi
  · exact first_short (l := l) (by assumption)
  split at hi
  · split at hi
    · exact first_ends h hb hn hc hm hcm (by omega) (by assumption) (by omega)
    split at hi
    · exact first_ends h hb hn hc hm hcm (by omega) (by assumption) (by omega)
    · cases hi
  · cases hi
set_option maxRecDepth 20000 in
set_option maxHeartbeats 8000000 in
/-- The program's CodeRead. -/
theorem codeRead_impl {b : List Int} {a : Option Addr} {c : Nat} {w : World} (h : Bys w a b) (hb : isB b) (hc : b.length ≤ c) (hm : b.length ≤ 1048576) (hcm : c ≤ 9223372036854775807) :
    Calls Try.prog 16 #[.slice a b.length c] w fun r w' => ∃ u, r = .returned (.tuple #[u, .bool (readB b)]) ∧ OwnVInsI w.heap.size w'.heap.size w' u (if readB b = true then (b.getD 0 0).toNat else 0) (rdE b) (rdN b) ∧ Below w.heap.size w w' := by
  by_cases h0 : b.length = 0
  · obtain rfl : b = [] := List.eq_nil_of_length_eq_zero h0
    show Calls Try.prog _ #[.slice a 0 c] w fun r w' => ∃ u, r = .returned (.tuple #[u, .bool false]) ∧ OwnVInsI w.heap.size w'.heap.size w' u (if false = true then _ else 0) _ _ ∧ _
    rw [if_neg (by decide)]
    clear h hb hc hm hcm h0
    go_enter Try.func16, Try.ntmps16
    go_wp2
    go_ret2
    exact ⟨_, rfl, OwnVInsI.nil none 0, Below.refl _ _⟩
  · obtain ⟨g, off, rfl, hg, c0⟩ := h.at (k := 0) (by omega)
    rw [Nat.add_zero] at c0
    have H : Hid (Bys w (some ⟨g, off, none⟩) b) := h
    have HB : Hid (isB b) := hb
    have b0 := isB_getD hb 0
    obtain ⟨n, hn⟩ : ∃ n, n = (b.getD 0 0).toNat := ⟨_, rfl⟩
    have en : b.getD 0 0 = (n : Int) := by omega
    have n255 : n ≤ 255 := by omega
    have RB0 : Hid (plc b n = none → readB b = false) := fun h => by
      cases b with
      | nil => simp at h0
      | cons x t => simp only [readB]; rw [show x.toNat = n from hn.symm, h]
    have RB1 : Hid (∀ p, plc b n = some p → p ≠ b.length → readB b = false) := fun p h hp => by
      cases b with
      | nil => simp at h0
      | cons x t => simp only [readB]; rw [show x.toNat = n from hn.symm, h]; simp only [decide_eq_false hp, Bool.false_and]
    have RB2 : Hid (plc b n = some b.length → readB b = codeB n (rdE b) (rdN b)) := fun h => by
      cases b with
      | nil => simp at h0
      | cons x t => simp only [readB]; rw [show x.toNat = n from hn.symm, h]; simp
    rw [← hn]
    rw [en] at c0
    obtain ⟨N, hN⟩ : ∃ N, N = b.length := ⟨_, rfl⟩
    have HN : Hid (N = b.length) := hN
    rw [← hN] at hc hm h0 RB1 RB2 ⊢
    have P0 : Hid (plc b 0 = some 1) := rfl
    have HS : ∀ W, (Instr.slice 24 (.slice (some ⟨g, off, none⟩) N c) (some (.int .i64 1)) none none).run Try.prog W = .ok (.slice (some ⟨g, if c - 1 = 0 then off else off + 1, none⟩) (N - 1) (c - 1)) W := fun W => run_fromB (M := 1) (by omega) hc W
    obtain ⟨o2, ho2⟩ : ∃ o2, o2 = if c - 1 = 0 then off else off + 1 := ⟨_, rfl⟩
    rw [← ho2] at HS
    have B2 : Hid (Bys w (some ⟨g, o2, none⟩) (b.drop 1)) := by
      show Bys _ _ _
      rw [ho2]
      split
      · exact .inl (List.drop_eq_nil_of_le (by omega))
      · exact h.drop 1
    have HG : Hid (g < w.heap.size) := hg
    obtain ⟨w1, r1, t1⟩ := make_instrN n (by omega) w.drew (rdE b) (rdN b)
    have T1 : Hid (OwnInsI w.heap.size w1.heap.size n 0 w1 (rdE b) (rdN b) ∧ Below w.heap.size w w1) := by
      obtain ⟨A, x, h1, h2, _, h4⟩ := t1
      have := lt_of_heapA h1
      exact ⟨⟨A, x, fun _ => w.heap.size + 1, h1, h2, rfl, fun i hi => absurd hi (by omega), this, Nat.le_refl _, fun i hi => absurd hi (by omega)⟩, ((Below.refl _ _).drew).trans h4⟩
    have SK : Hid (∀ W, Below w.heap.size w W → W.cell? ⟨g, off, none⟩ = some (.int .u8 (n : Int))) := fun W hb => (hb.cell (p := ⟨g, off, none⟩) hg).trans c0
    have i0 : ¬ ((N : Int) = 0) := by omega
    have i1 : ((N : Int) == 0) = false := by simpa using i0
    have k0 : 0 < N := by omega
    have j1 : (1 : Int) ≤ (N : Int) := by omega
    have wn : IntKind.i64.wrap (n : Int) = (n : Int) := by rw [IntKind.wrap_i64]; omega
    have r1' : ((Instr.makeSlice 27 (.int .i64 (n : Int)) (.int .i64 (n : Int))).run Try.prog w.drew = .ok (.slice (some ⟨w.heap.size, 0, none⟩) n n) w1) := r1
    obtain ⟨QB, hQB⟩ : ∃ QB, QB = readB b := ⟨_, rfl⟩
    obtain ⟨QM, hQM⟩ : ∃ QM, QM = if readB b = true then n else 0 := ⟨_, rfl⟩
    have HQ1 : Hid (readB b = false → QB = false ∧ QM = 0) := fun e => ⟨by rw [hQB, e], by rw [hQM, e]; rfl⟩
    have HQ2 : Hid (readB b = true → QB = true ∧ QM = n) := fun e => ⟨by rw [hQB, e], by rw [hQM, e]; rfl⟩
    rw [← hQM, ← hQB]
    clear hQM hQB
    clear h hb hn en c0 t1 hg ho2 hN b0 r1
    go_enter Try.func16, Try.ntmps16
    go_wp2_with fail
    go_region_held3 (fun w' => w'.cell? ⟨g, off, none⟩ = some (.int .u8 (n : Int)))
      ((refine SK.out _ ?_; first | with_reducible exact T1.out.2 | with_reducible exact Below.refl _ _ | with_reducible exact (Below.refl _ _).drew))
      (fail)
    all_goals
      clear SK HS r1' wn
      have PB : Hid (∀ p, plc b n = some p → p ≤ N) := fun p hp => by rw [HN.out]; exact (plc_le (by have := HN.out; omega) hp).1
      go_wp2
      go_loopw [5, 22] (fun u i w' => ∃ (k p o' c' : Nat), k ≤ n ∧ i = .int .i64 (k : Int) ∧ plc b k = some p ∧ p ≤ N ∧ u = .slice (some ⟨g, o', none⟩) (N - p) c' ∧ N - p ≤ c' ∧ c' ≤ c ∧ Bys w' (some ⟨g, o', none⟩) (b.drop p) ∧ OwnInsI w.heap.size w'.heap.size n k w' (rdE b) (rdN b) ∧ Below w.heap.size w w') (fun _ i _ => n - (intOf i).toNat)
      case atStart => exact ⟨0, 1, o2, c - 1, by omega, rfl, P0.out, by omega, rfl, by omega, by omega, B2.out.keep T1.out.2, T1.out.1, T1.out.2⟩
      case round =>
        obtain ⟨k, p, o', c', hk, rfl, hp, hpN, rfl, hc1, hc2, hBy, hO, hbel⟩ := hrel
        have BY : Hid (Bys wr (some ⟨g, o', none⟩) (b.drop p)) := hBy
        have TK : Hid (OwnInsI w.heap.size wr.heap.size n k wr (rdE b) (rdN b)) := hO
        have BK : Hid (Below w.heap.size w wr) := hbel
        have HP : Hid (plc b k = some p) := hp
        clear hBy hO hbel T1 B2 hp
        by_cases hlt : (k : Int) < (n : Int)
        · have L : k < n := by omega
          have LD : (b.drop p).length = N - p := by rw [List.length_drop, HN.out]
          cases hi : insLen (b.drop p) with
          | none =>
            have CF : Hid (Calls Try.prog 27 #[.slice (some ⟨g, o', none⟩) (N - p) c'] wr fun r w' => EndPost wr r w') := first_none BY.out (isB_drop HB.out p) LD hc1 (by omega) (by omega) hi
            have RF : Hid (readB b = false) := RB0.out (plc_none (plc_end HP.out hi) (by omega))
            clear LD hi
            generalize N - p = np at *
            go_wp2_with fail
            refine CF.out.mono ?_
            rintro r w2 ⟨y0, y1, y2, y3, y4, rfl, hb2⟩
            have B2' : Hid (Below w.heap.size w w2) := bTrans BK.out hb2
            clear hb2 CF
            go_wp2
            go_ret2
            rw [(HQ1.out RF.out).1, (HQ1.out RF.out).2]
            exact ⟨_, rfl, OwnVInsI.nil none 0, bAlloc B2'.out _⟩
          | some m =>
            have ml_le := insLen_le hi
            have CF : Hid (Calls Try.prog 27 #[.slice (some ⟨g, o', none⟩) (N - p) c'] wr fun r w' => FirstPost wr g (N - p) c' m (b.drop p) r w') := first_some BY.out (isB_drop HB.out p) LD hc1 (by omega) (by omega) hi
            have PN : Hid (plc b (k + 1) = some (p + m)) := plc_next HP.out hi
            have EQ : rdE b k = insB1 (b.drop p) := by simp [rdE, HP.out]
            have EN : rdN b k = insB2 (b.drop p) := by simp [rdN, HP.out]
            have PUT : Hid (∀ (W : World) (x' : Value), Below wr.heap.size wr W → Piece wr.heap.size W.heap.size W x' (rdN b k) → OwnInsI w.heap.size W.heap.size n (k + 1) ((((((W.setCell ⟨w.heap.size, k * 6, none⟩ (.int .i64 (rdE b k 0))).setCell ⟨w.heap.size, k * 6 + 1, none⟩ (.int .i64 (rdE b k 1))).setCell ⟨w.heap.size, k * 6 + 2, none⟩ (.int .i64 (rdE b k 2))).setCell ⟨w.heap.size, k * 6 + 3, none⟩ (.int .i64 (rdE b k 3))).setCell ⟨w.heap.size, k * 6 + 4, none⟩ (.int .i64 (rdE b k 4))).setCell ⟨w.heap.size, k * 6 + 5, none⟩ x') (rdE b) (rdN b)) := fun W x' hb hA => TK.out.put hb L (e := rdE b k) rfl hA
            unfold FirstPost at CF
            rw [← EN, List.drop_drop] at CF
            have q0 : (b.drop p).getD 0 0 = rdE b k 0 := by rw [EQ]; rfl
            have q1 : (b.drop p).getD 1 0 = rdE b k 1 := by rw [EQ]; rfl
            have q2 : (b.drop p).getD 2 0 = rdE b k 2 := by rw [EQ]; rfl
            have q3 : (b.drop p).getD 3 0 = rdE b k 3 := by rw [EQ]; rfl
            have q4 : (b.drop p).getD 4 0 = rdE b k 4 := by rw [EQ]; rfl
            rw [q0, q1, q2, q3, q4] at CF
            have PM : Hid (p + m ≤ N ∧ N - p - m = N - (p + m)) := by rw [LD] at ml_le; show _ ∧ _; omega
            rw [PM.out.2] at CF
            clear q0 q1 q2 q3 q4 EQ EN LD hi ml_le
            generalize hml : (rdN b k).length = ml at *
            have HML : Hid ((rdN b k).length = ml) := hml
            clear hml
            generalize rdE b k 0 = q0 at *
            generalize rdE b k 1 = q1 at *
            generalize rdE b k 2 = q2 at *
            generalize rdE b k 3 = q3 at *
            generalize rdE b k 4 = q4 at *
            generalize hnp : N - p = np at *
            generalize hnq : N - (p + m) = nq at *
            go_wp2_with fail
            refine CF.out.mono ?_
            rintro r w2 ⟨xa2, xc2, o3, c3, rfl, hd1, hd2, hy, hA, hb2⟩
            have hb3 : Below wr.heap.size wr (w2.alloc (.cells #[.int .i64 q0, .int .i64 q1, .int .i64 q2, .int .i64 q3, .int .i64 q4, .slice xa2 ml xc2] 47)) := bAlloc hb2 _
            have T3 : Hid (OwnInsI w.heap.size (w2.alloc (.cells #[.int .i64 q0, .int .i64 q1, .int .i64 q2, .int .i64 q3, .int .i64 q4, .slice xa2 ml xc2] 47)).heap.size n (k + 1) (((((((w2.alloc (.cells #[.int .i64 q0, .int .i64 q1, .int .i64 q2, .int .i64 q3, .int .i64 q4, .slice xa2 ml xc2] 47)).setCell ⟨w.heap.size, k * 6, none⟩ (.int .i64 q0)).setCell ⟨w.heap.size, k * 6 + 1, none⟩ (.int .i64 q1)).setCell ⟨w.heap.size, k * 6 + 2, none⟩ (.int .i64 q2)).setCell ⟨w.heap.size, k * 6 + 3, none⟩ (.int .i64 q3)).setCell ⟨w.heap.size, k * 6 + 4, none⟩ (.int .i64 q4)).setCell ⟨w.heap.size, k * 6 + 5, none⟩ (.slice xa2 ml xc2)) (rdE b) (rdN b)) := PUT.out _ _ hb3 ((hA.keep (bAlloc (Below.refl _ _) _)).mono (Nat.le_refl _) (by simp))
            obtain ⟨⟨⟨u0, d0⟩, ⟨u1, d1⟩, ⟨u2, d2⟩, ⟨u3, d3⟩, ⟨u4, d4⟩, ⟨u5, d5⟩⟩, f0, f1, f2, f3, f4, f5⟩ := (TK.out.keep hb3).cells L
            have BY3 : Hid (Bys w2 (some ⟨g, o3, none⟩) (b.drop (p + m))) := hy
            have B3 : Hid (Below w.heap.size w (w2.alloc (.cells #[.int .i64 q0, .int .i64 q1, .int .i64 q2, .int .i64 q3, .int .i64 q4, .slice xa2 ml xc2] 47))) := bTrans BK.out hb3
            have SZ2 : Hid (w.heap.size < w2.heap.size) := by have := TK.out.lt; have := hb2.size; show _ < _; omega
            clear hy hA hb2 hb3 PUT CF
            go_wp2
            go_roundw
            case rel =>
              have e9 := SZ2.out
              refine ⟨k + 1, p + m, o3, c3, by omega, by go_num, PN.out, PM.out.1, by rw [← hnq], by omega, by omega, ?_, by simpa only [size_setCell] using T3.out, below_setCell (below_setCell (below_setCell (below_setCell (below_setCell (below_setCell B3.out (Nat.le_refl _) _ _) (Nat.le_refl _) _ _) (Nat.le_refl _) _ _) (Nat.le_refl _) _ _) (Nat.le_refl _) _ _) (Nat.le_refl _) _ _⟩
              refine Bys.winR (P := w.heap.size) (Q := w.heap.size + 1) (BY3.out.keep (bAlloc (Below.refl _ _) (.cells #[.int .i64 q0, .int .i64 q1, .int .i64 q2, .int .i64 q3, .int .i64 q4, .slice xa2 ml xc2] 47))) ?_ HG.out
              exact (((((win_setCell _ _ _ _).trans (win_setCell _ _ _ _)).trans (win_setCell _ _ _ _)).trans (win_setCell _ _ _ _)).trans (win_setCell _ _ _ _)).trans (win_setCell _ _ _ _)
            case measure => simp [intOf]; omega
        · obtain rfl : k = n := by omega
          by_cases hpe : p = N
          · have RQ : readB b = codeB k (rdE b) (rdN b) := RB2.out (by rw [HP.out, hpe])
            have CO : Hid (Calls Try.prog 21 #[.slice (some ⟨w.heap.size, 0, none⟩) k k] wr fun r w' => r = .returned (.bool (readB b)) ∧ Below wr.heap.size wr w') := by rw [RQ]; exact codeOk_impl TK.out.list (fun i => Nat.le_trans (rdN_le HB.out i) (by decide)) (by omega)
            have z0 : N - p = 0 := by omega
            rw [z0]
            clear RQ z0
            obtain ⟨Q, hQ⟩ : ∃ Q, Q = readB b := ⟨_, rfl⟩
            have HQ : Hid (readB b = Q) := hQ.symm
            rw [← hQ] at CO
            clear hQ
            go_wp2_with fail
            refine CO.out.mono ?_
            rintro r w2 ⟨rfl, hb2⟩
            have T2 : Hid (OwnInsI w.heap.size wr.heap.size k k w2 (rdE b) (rdN b)) := TK.out.keep hb2
            have BW : Hid (Below w.heap.size w w2) := bTrans BK.out hb2
            have SZ : Hid (wr.heap.size ≤ w2.heap.size) := hb2.size
            clear hb2 CO
            cases Q
            · go_wp2
              go_ret2
              rw [(HQ1.out HQ.out).1, (HQ1.out HQ.out).2]
              exact ⟨_, rfl, OwnVInsI.nil none 0, BW.out⟩
            · go_wp2
              go_ret2
              rw [(HQ2.out HQ.out).1, (HQ2.out HQ.out).2]
              exact ⟨_, rfl, .inr ⟨_, rfl, Nat.le_refl _, T2.out.mono SZ.out (Nat.le_refl _)⟩, BW.out⟩
          · have RF : Hid (readB b = false) := RB1.out p HP.out hpe
            have z1 : (0 : Int) < ((N - p : Nat) : Int) := by omega
            have z2 : 0 < N - p := by omega
            generalize N - p = np at *
            go_wp2
            go_ret2
            rw [(HQ1.out RF.out).1, (HQ1.out RF.out).2]
            exact ⟨_, rfl, OwnVInsI.nil none 0, BK.out⟩
end Go.Proofs.Ythmmeapokhfdiaa
namespace Go.Proofs.Ythmmeapokhfdiaa
open Go.RowKit
set_option linter.unusedVariables false
set_option linter.unusedSimpArgs false
set_option maxRecDepth 20000 in
set_option maxHeartbeats 4000000 in
theorem withCount_impl {B : Nat} {w : World} {a : Option Addr} {c : Nat} {l : List Int} (h : NewB B w (.slice a l.length c) l) (hB : B ≤ w.heap.size) (hl : l.length ≤ 1000000) (n : Nat) (hn : n ≤ 1048576) :
    Calls Try.prog 23 #[.slice a l.length c, .int .i64 (n : Int)] w fun r w' => ∃ a' c', r = .returned (.slice a' (l.length + 2) c') ∧ NewB B w' (.slice a' (l.length + 2) c') (l ++ [(n : Int) % 256, (n : Int) / 256 % 256]) ∧ Gr (.slice a l.length c) w (.slice a' (l.length + 2) c') w' := by
  obtain ⟨a5, c5, w5, hr, h5, hb5⟩ := growBs [(n : Int) % 256, (n : Int) / 256 % 256] h hB (by simp; omega)
  have R5 : Hid ((Builtin.append_ #[24, 24] 24 #[.slice a l.length c, .slice (some ⟨w.heap.size, 0, none⟩) 2 2]).run Try.prog (w.alloc (.cells #[.int .u8 ((n : Int) % 256), .int .u8 ((n : Int) / 256 % 256)] 5)) = .ok (.slice a5 (l.length + 2) c5) w5) := by show _ = _; simpa [bvals] using hr
  have N5 : Hid (NewB B w5 (.slice a5 (l.length + 2) c5) (l ++ [(n : Int) % 256, (n : Int) / 256 % 256])) := by show NewB _ _ _ _; simpa using h5
  have B5 : Hid (Gr (.slice a l.length c) w (.slice a5 (l.length + 2) c5) w5) := by show Gr _ _ _ _; simpa using hb5
  clear hr h5 hb5 h
  go_enter Try.func23, Try.ntmps23
  go_wp2_with (at_builtin; refine wpList_append_ty rfl _ _ 24 24 rfl _ _ _ rfl rfl R5.out ?_)
  go_ret
  exact ⟨_, _, rfl, N5.out, B5.out⟩
theorem num8_next (n : Int) (h : 0 ≤ n) (j : Nat) : n / 256 ^ j / 256 = n / 256 ^ (j + 1) := by
  rw [Int.ediv_ediv_of_nonneg (by exact Int.pow_nonneg (by decide)), Int.pow_succ]
set_option maxRecDepth 20000 in
set_option maxHeartbeats 8000000 in
theorem withNums_impl {B : Nat} {w : World} {a b : Option Addr} {c d : Nat} {l m : List Int} (h : NewB B w (.slice a l.length c) l) (hm : ∀ W, Below B w W → Ints W b m) (hB : B ≤ w.heap.size) (hl : l.length + 8 * m.length ≤ 1000000) (hk : m.all ok = true) :
    Calls Try.prog 22 #[.slice a l.length c, .slice b m.length d] w fun r w' => ∃ a' c', r = .returned (.slice a' (l ++ numsBy m).length c') ∧ NewB B w' (.slice a' (l ++ numsBy m).length c') (l ++ numsBy m) ∧ Gr (.slice a l.length c) w (.slice a' (l ++ numsBy m).length c') w' := by
  have H : Hid (NewB B w (.slice a l.length c) l) := h
  have HM : Hid (∀ W, Below B w W → Ints W b m) := hm
  have HL : Hid (l.length + 8 * m.length ≤ 1000000) := hl
  have HK : Hid (m.all ok = true) := hk
  have HB : Hid (B ≤ w.heap.size) := hB
  have hml : m.length ≤ 1000000 := by omega
  clear h hm hl hk hB
  go_enter Try.func22, Try.ntmps22
  go_wp2
  go_loopw [0, 10] (fun u i w' => ∃ (k : Nat) (a1 : Option Addr) (c1 : Nat), k ≤ m.length ∧ u = .slice a1 (l ++ numsBy (m.take k)).length c1 ∧ i = .int .i64 (k : Int) ∧ NewB B w' (.slice a1 (l ++ numsBy (m.take k)).length c1) (l ++ numsBy (m.take k)) ∧ Gr (.slice a l.length c) w u w') (fun _ i _ => m.length - (intOf i).toNat)
  case atStart => exact ⟨0, a, c, by omega, by simp [numsBy], rfl, by simpa [numsBy] using H.out, Gr.refl _ _⟩
  case round =>
    obtain ⟨k, a1, c1, hk, rfl, rfl, hN, hb⟩ := hrel
    have NK : Hid (NewB B wr (.slice a1 (l ++ numsBy (m.take k)).length c1) (l ++ numsBy (m.take k))) := hN
    have BK : Hid (Gr (.slice a l.length c) w (.slice a1 (l ++ numsBy (m.take k)).length c1) wr) := hb
    have BL : Hid (Below B w wr) := hb.below H.out.row HB.out
    clear hN hb
    by_cases hlt : (k : Int) < (m.length : Int)
    · have L : k < m.length := by omega
      obtain ⟨b1, o1, rfl, _, cx⟩ := (HM.out _ BL.out).at L
      have ET : Hid (l ++ numsBy (m.take (k + 1)) = (l ++ numsBy (m.take k)) ++ num8 (m.getD k 0 + 1000000000000)) := by show _ = _; rw [numsBy_take L, List.append_assoc]
      have LA : Hid ((l ++ numsBy (m.take k)).length + 8 ≤ 1000000) := by
        have := HL.out
        show _ ≤ _
        rw [List.length_append, numsBy_len, List.length_take]
        omega
      have OK : ok (m.getD k 0) = true := by
        have := List.all_eq_true.1 HK.out (m.getD k 0) (by simp [L])
        exact this
      obtain ⟨F', hF'⟩ : ∃ F', F' = l ++ numsBy (m.take (k + 1)) := ⟨_, rfl⟩
      have HF' : Hid (F' = l ++ numsBy (m.take (k + 1))) := hF'
      rw [← hF'] at ET
      clear hF' L
      generalize l ++ numsBy (m.take k) = A at *
      generalize m.getD k 0 = x at *
      have x0 : -1000000000000 ≤ x ∧ x ≤ 1000000000000 := by unfold ok at OK; simpa using OK
      clear OK
      obtain ⟨y, hy⟩ : ∃ y, y = x + 1000000000000 := ⟨_, rfl⟩
      have y0 : 0 ≤ y := by omega
      have y1 : y ≤ 2000000000000 := by omega
      rw [← hy] at ET
      have HY : Hid (x + 1000000000000 = y) := hy.symm
      clear hy
      go_wp2_with fail
      go_loopw [0, 7, 16] (fun u r i w' => ∃ (j : Nat) (a2 : Option Addr) (c2 : Nat), j ≤ 8 ∧ u = .slice a2 (A ++ (num8 y).take j).length c2 ∧ r = .int .i64 (y / 256 ^ j) ∧ i = .int .i64 (j : Int) ∧ NewB B w' (.slice a2 (A ++ (num8 y).take j).length c2) (A ++ (num8 y).take j) ∧ Gr (.slice a l.length c) w u w') (fun _ _ i _ => 8 - (intOf i).toNat)
      case atStart => exact ⟨0, a1, c1, by omega, by simp, by rw [HY.out]; simp, rfl, by simpa using NK.out, by simpa using BK.out⟩
      case round =>
        obtain ⟨j, a2, c2, hj, rfl, rfl, rfl, hN, hb⟩ := hrel
        have NJ : Hid (NewB B wr (.slice a2 (A ++ (num8 y).take j).length c2) (A ++ (num8 y).take j)) := hN
        have BJ : Hid (Gr (.slice a l.length c) w (.slice a2 (A ++ (num8 y).take j).length c2) wr) := hb
        clear hN hb
        by_cases hjt : (j : Int) < 8
        · have LJ : j < 8 := by omega
          have EJ : A ++ (num8 y).take (j + 1) = (A ++ (num8 y).take j) ++ [y / 256 ^ j % 256] := by rw [num8_take y LJ, List.append_assoc]
          have EN : Hid (y / 256 ^ j / 256 = y / 256 ^ (j + 1)) := num8_next y y0 j
          have LJ2 : (A ++ (num8 y).take j).length ≤ 1000000 := by have := LA.out; rw [List.length_append, List.length_take, num8_len]; omega
          obtain ⟨G', hG'⟩ : ∃ G', G' = A ++ (num8 y).take (j + 1) := ⟨_, rfl⟩
          have HG' : Hid (G' = A ++ (num8 y).take (j + 1)) := hG'
          rw [← hG'] at EJ
          clear hG'
          have z0 : 0 ≤ y / 256 ^ j := Int.ediv_nonneg y0 (Int.pow_nonneg (by decide))
          have z1 : y / 256 ^ j ≤ y := Int.ediv_le_self _ y0
          generalize y / 256 ^ j = z at *
          generalize A ++ (num8 y).take j = G at *
          obtain ⟨a5, c5, w5, hr, h5, hb5⟩ := growBs [z % 256] NJ.out (Nat.le_trans HB.out BJ.out.size) (by simp; omega)
          rw [← EJ] at hr h5
          have LG : Hid (G'.length = G.length + 1) := by show _ = _; rw [EJ]; simp
          rw [LG.out] at hr h5
          rw [show (G ++ [z % 256]).length = G.length + 1 by simp] at hb5
          have R5 : Hid ((Builtin.append_ #[24, 24] 24 #[.slice a2 G.length c2, .slice (some ⟨wr.heap.size, 0, none⟩) 1 1]).run Try.prog (wr.alloc (.cells #[.int .u8 (z % 256)] 5)) = .ok (.slice a5 (G.length + 1) c5) w5) := by show _ = _; simpa [bvals] using hr
          have N5 : Hid (NewB B w5 (.slice a5 (G.length + 1) c5) G') := h5
          have B5 : Hid (Gr (.slice a l.length c) w (.slice a5 (G.length + 1) c5) w5) := BJ.out.trans hb5
          clear hr h5 hb5 EJ
          go_wp2_with (at_builtin; refine wpList_append_ty rfl _ _ 24 24 rfl _ _ _ rfl rfl R5.out ?_)
          go_roundw
          case rel => exact ⟨j + 1, a5, c5, by omega, by rw [← HG'.out, LG.out], by rw [← EN.out], by go_num, by rw [← HG'.out, LG.out]; exact N5.out, B5.out⟩
          case measure => simp [intOf]; omega
        · obtain rfl : j = 8 := by omega
          have E8 : Hid (A ++ (num8 y).take 8 = F') := by show _ = _; rw [ET.out, List.take_of_length_le (by rw [num8_len]; omega)]
          rw [E8.out] at NJ BJ ⊢
          go_wp2
          go_roundw
          case rel => exact ⟨k + 1, a2, c2, by omega, by rw [← HF'.out], by go_num, by rw [← HF'.out]; exact NJ.out, BJ.out⟩
          case measure => simp [intOf]; omega
    · obtain rfl : k = m.length := by omega
      have E8 : m.take m.length = m := List.take_length
      rw [E8] at NK BK ⊢
      go_wp2
      go_ret
      exact ⟨_, _, rfl, by have := NK.out; rwa [List.length_append] at this, by have := BK.out; rwa [List.length_append] at this⟩
end Go.Proofs.Ythmmeapokhfdiaa
namespace Go.Proofs.Ythmmeapokhfdiaa
open Go.RowKit
set_option linter.unusedVariables false
set_option linter.unusedSimpArgs false
theorem NewB.own_lt {B : Nat} {w : World} {v : Value} {l : List Int} (h : NewB B w v l) : ∀ k, v.ownBlock = some k → k < w.heap.size := by
  obtain ⟨_, h2⟩ := h
  intro k hk
  rcases h2 with ⟨rfl, _⟩ | ⟨g, cap, cur, rfl, _, hg, _⟩
  · simp [Value.ownBlock] at hk
  · simp [Value.ownBlock] at hk
    subst hk
    exact (Array.getElem?_eq_some_iff.1 hg).1
/-- What CodePack answers. -/
def PackPost (w : World) (b : Bool) (P : List Int) (r : Ending) (w' : World) : Prop := ∃ a c, r = .returned (.tuple #[.slice a P.length c, .bool b]) ∧ NewB w.heap.size w' (.slice a P.length c) P ∧ Below w.heap.size w w'
theorem NewB.nil (B : Nat) (w : World) : NewB B w (.slice none 0 0) [] := ⟨rfl, .inl ⟨rfl, rfl⟩⟩
set_option maxRecDepth 20000 in
set_option maxHeartbeats 8000000 in
/-- The program's CodePack. -/
theorem codePack_impl {w : World} {v : Value} {n : Nat} {E : Nat → Nat → Int} {N : Nat → List Int} (h : InsI w v n E N) (hl : ∀ i, (N i).length ≤ 1048576) (hn : n ≤ 1048576) :
    Calls Try.prog 8 #[v] w fun r w' => PackPost w (codeB n E N) (if codeB n E N = true then packL n E N else []) r w' := by
  have H : Hid (InsI w v n E N) := h
  have CO : Hid (Calls Try.prog 21 #[v] w fun r w' => r = .returned (.bool (codeB n E N)) ∧ Below w.heap.size w w') := codeOk_impl h hl hn
  clear hl
  obtain ⟨a, c, rfl, _⟩ := h
  cases hc : codeB n E N
  · rw [hc] at CO
    rw [if_neg (by decide)]
    clear hc
    go_enter Try.func8, Try.ntmps8
    go_wp2_with fail
    refine CO.out.mono ?_
    rintro r w1 ⟨rfl, hb⟩
    have B1 : Hid (Below w.heap.size w w1) := hb
    clear hb
    go_wp2
    go_ret2
    exact ⟨none, 0, rfl, NewB.nil _ _, B1.out⟩
  · rw [if_pos rfl]
    have hp := codeB_iff.1 hc
    have n60 : n ≤ 60 := hp.2.1
    have HI : Hid (∀ i, i < n → insB (E i) (N i) = true) := hp.2.2.1
    have HN : Hid (∀ i, i < n → (N i).length ≤ 300) := fun i hi => (insB_len (hp.2.2.1 i hi)).1
    rw [hc] at CO
    clear hc hp
    have EP : Hid (packL n E N = (n : Int) :: packN E N n) := rfl
    generalize packL n E N = PL at *
    go_enter Try.func8, Try.ntmps8
    go_wp2_with fail
    refine CO.out.mono ?_
    rintro r w1 ⟨rfl, hb⟩
    have B1 : Hid (Below w.heap.size w w1) := hb
    clear hb CO
    go_wp2_with fail
    generalize hW : w1.alloc (.cells #[.int .u8 (n : Int)] 5) = W1
    have N1 : Hid (NewB w1.heap.size W1 (.slice (some ⟨w1.heap.size, 0, none⟩) 1 1) ((n : Int) :: packN E N 0)) := by rw [← hW]; exact newB_alloc w1 [(n : Int)] (Nat.le_refl _) (by simp)
    have BB1 : Hid (Below w1.heap.size w1 W1) := by rw [← hW]; exact one_below
    clear hW
    go_loopw [4, 16] (fun u i w' => ∃ (k : Nat) (a1 : Option Addr) (c1 : Nat), k ≤ n ∧ u = .slice a1 ((n : Int) :: packN E N k).length c1 ∧ i = .int .i64 (k : Int) ∧ NewB w1.heap.size w' (.slice a1 ((n : Int) :: packN E N k).length c1) ((n : Int) :: packN E N k) ∧ Below w1.heap.size w1 w') (fun _ i _ => n - (intOf i).toNat)
    case atStart => exact ⟨0, _, _, by omega, rfl, rfl, N1.out, BB1.out⟩
    case round =>
      obtain ⟨k, a1, c1, hk, rfl, rfl, hN, hb⟩ := hrel
      have NK : Hid (NewB w1.heap.size wr (.slice a1 ((n : Int) :: packN E N k).length c1) ((n : Int) :: packN E N k)) := hN
      have BK : Hid (Below w1.heap.size w1 wr) := hb
      clear hN hb N1 BB1
      by_cases hlt : (k : Int) < (n : Int)
      · have L : k < n := by omega
        obtain ⟨o, off, xa, xc, rfl, ho, ⟨p0, p1, p2, p3, p4, p5⟩, ar⟩ := (H.out.keep (bTrans B1.out BK.out)).at L
        obtain ⟨_, _, ev, _, hi0⟩ := ar
        cases ev
        have NW : Hid (∀ W, Below w1.heap.size w1 W → Ints W xa (N k)) := by
          obtain ⟨o', off', xa', xc', e', ho', ⟨_, _, _, _, _, c5'⟩, ar'⟩ := H.out.at L
          cases e'
          have ec := (bTrans B1.out BK.out).cell (p := ⟨o, off + k * 6 + 5, none⟩) ho'
          rw [p5, c5'] at ec
          simp only [Option.some.injEq, Value.slice.injEq] at ec
          obtain ⟨_, _, ev', _, hi'⟩ := ar'
          cases ev'
          rw [← ec.1] at hi'
          exact fun W hW => hi'.keep (bTrans B1.out hW)
        have OK : Hid (E k 0 = 1 → (N k).all ok = true) := (insB_len (HI.out k L)).2
        have L3 : (N k).length ≤ 300 := HN.out k L
        have LP : Hid (((n : Int) :: packN E N k).length ≤ 144421) := by
          have := packN_len (E := E) (fun i hi => HN.out i hi) (Nat.le_of_lt L)
          show _ ≤ _
          simp only [List.length_cons]
          omega
        have ES : Hid ((n : Int) :: packN E N (k + 1) = ((n : Int) :: packN E N k) ++ packI (E k) (N k)) := rfl
        have EI : Hid (packI (E k) (N k) = [E k 0 % 256, E k 1 % 256, E k 2 % 256, E k 3 % 256, E k 4 % 256] ++ if E k 0 = 1 then [((N k).length : Int) % 256, ((N k).length : Int) / 256 % 256] ++ numsBy (N k) else []) := rfl
        obtain ⟨F', hF'⟩ : ∃ F', F' = (n : Int) :: packN E N (k + 1) := ⟨_, rfl⟩
        have HF' : Hid (F' = (n : Int) :: packN E N (k + 1)) := hF'
        rw [← hF', EI.out] at ES
        clear hF' EI hi0 L ho
        generalize (n : Int) :: packN E N k = A at *
        generalize N k = nl at *
        generalize E k 0 = q0 at *
        generalize E k 1 = q1 at *
        generalize E k 2 = q2 at *
        generalize E k 3 = q3 at *
        generalize E k 4 = q4 at *
        have hnew := heap_alloc_new wr (.cells #[.int .i64 q0, .int .i64 q1, .int .i64 q2, .int .i64 q3, .int .i64 q4, .slice xa nl.length xc] 47)
        obtain ⟨Wa, hWa⟩ : ∃ Wa, Wa = wr.alloc (.cells #[.int .i64 q0, .int .i64 q1, .int .i64 q2, .int .i64 q3, .int .i64 q4, .slice xa nl.length xc] 47) := ⟨_, rfl⟩
        have SZ : Wa.heap.size = wr.heap.size + 1 := by rw [hWa]; simp
        have BWa : Hid (Below w1.heap.size w1 Wa) := by rw [hWa]; exact bAlloc BK.out _
        have NKa : NewB w1.heap.size Wa (.slice a1 A.length c1) A := by rw [hWa]; exact NK.out.keep one_below
        obtain ⟨a5, c5, w5, hr, h5, hg5⟩ := growBs [q0 % 256, q1 % 256, q2 % 256, q3 % 256, q4 % 256] NKa BWa.out.size (by have := LP.out; simp; omega)
        rw [show (A ++ [q0 % 256, q1 % 256, q2 % 256, q3 % 256, q4 % 256]).length = A.length + 5 by simp] at hr h5 hg5
        have R5 : Hid ((Builtin.append_ #[24, 24] 24 #[.slice a1 A.length c1, .slice (some ⟨wr.heap.size + 1, 0, none⟩) 5 5]).run Try.prog ((wr.alloc (.cells #[.int .i64 q0, .int .i64 q1, .int .i64 q2, .int .i64 q3, .int .i64 q4, .slice xa nl.length xc] 47)).alloc (.cells #[.int .u8 (q0 % 256), .int .u8 (q1 % 256), .int .u8 (q2 % 256), .int .u8 (q3 % 256), .int .u8 (q4 % 256)] 5)) = .ok (.slice a5 (A.length + 5) c5) w5) := by show _ = _; rw [← hWa, ← SZ]; simpa [bvals] using hr
        have BX : Hid (w5.heap[wr.heap.size]? = some (.cells #[.int .i64 q0, .int .i64 q1, .int .i64 q2, .int .i64 q3, .int .i64 q4, .slice xa nl.length xc] 47 (0, 0))) := by
          show _ = _
          rw [hg5.block wr.heap.size (by omega) (fun e => by have := NK.out.own_lt _ e.symm; omega), hWa]
          exact hnew
        have N5 : Hid (NewB w1.heap.size w5 (.slice a5 (A.length + 5) c5) (A ++ [q0 % 256, q1 % 256, q2 % 256, q3 % 256, q4 % 256])) := h5
        have O5 : Hid (∀ j, (Value.slice a5 (A.length + 5) c5).ownBlock = some j → j ≠ wr.heap.size) := fun j hj => by
          rcases hg5.own with e | ⟨o, e, ho⟩
          · have := NK.out.own_lt j (by rw [← e]; exact hj)
            omega
          · rw [e] at hj
            cases hj
            omega
        have B5 : Hid (Below w1.heap.size w1 w5) := BWa.out.trans (hg5.below NKa.row BWa.out.size)
        clear hr h5 hg5 hnew NKa hWa SZ BWa
        have x0 : w5.cell? ⟨wr.heap.size, 0, none⟩ = some (.int .i64 q0) := cell_at BX.out rfl
        have x5 : w5.cell? ⟨wr.heap.size, 5, none⟩ = some (.slice xa nl.length xc) := cell_at BX.out rfl
        by_cases h1 : q0 = 1
        · subst h1
          rw [if_pos rfl] at ES
          have OKN := OK.out rfl
          have HG : Hid (∀ (v' : Value) (W : World), Gr (.slice a5 (A.length + 5) c5) w5 v' W → W.cell? ⟨wr.heap.size, 5, none⟩ = some (.slice xa nl.length xc)) := fun v' W hg => by
            have e : W.heap[wr.heap.size]? = _ := (hg.block wr.heap.size (lt_of_heapA BX.out) (fun e => O5.out _ e.symm rfl)).trans BX.out
            exact cell_at e rfl
          obtain ⟨D, hD⟩ : ∃ D, D = A ++ [1 % 256, q1 % 256, q2 % 256, q3 % 256, q4 % 256] := ⟨_, rfl⟩
          have DL : D.length = A.length + 5 := by rw [hD]; simp
          rw [← hD] at N5
          have ES2 : Hid (F' = (D ++ [(nl.length : Int) % 256, (nl.length : Int) / 256 % 256]) ++ numsBy nl) := by show _ = _; rw [ES.out, hD]; simp
          have CW : Hid (Calls Try.prog 23 #[.slice a5 (A.length + 5) c5, .int .i64 (nl.length : Int)] w5.drew fun r w' => ∃ a' c', r = .returned (.slice a' (A.length + 5 + 2) c') ∧ NewB w1.heap.size w' (.slice a' (A.length + 5 + 2) c') (D ++ [(nl.length : Int) % 256, (nl.length : Int) / 256 % 256]) ∧ Gr (.slice a5 (A.length + 5) c5) w5.drew (.slice a' (A.length + 5 + 2) c') w') := by
            have := withCount_impl (w := w5.drew) (B := w1.heap.size) (a := a5) (c := c5) (l := D) (by rw [DL]; exact N5.out) B5.out.size (by have := LP.out; omega) nl.length (by omega)
            rw [DL] at this
            exact this
          have CN : Hid (∀ (a6 : Option Addr) (c6 : Nat) (w6 : World), Below w1.heap.size w1 w6 → NewB w1.heap.size w6 (.slice a6 (A.length + 5 + 2) c6) (D ++ [(nl.length : Int) % 256, (nl.length : Int) / 256 % 256]) → Calls Try.prog 22 #[.slice a6 (A.length + 5 + 2) c6, .slice xa nl.length xc] w6 fun r w' => ∃ a' c', r = .returned (.slice a' F'.length c') ∧ NewB w1.heap.size w' (.slice a' F'.length c') F' ∧ Gr (.slice a6 (A.length + 5 + 2) c6) w6 (.slice a' F'.length c') w') := fun a6 c6 w6 hb6 hn6 => by
            have LD : (D ++ [(nl.length : Int) % 256, (nl.length : Int) / 256 % 256]).length = A.length + 5 + 2 := by rw [List.length_append, DL]; rfl
            have := withNums_impl (w := w6) (B := w1.heap.size) (a := a6) (b := xa) (c := c6) (d := xc) (l := D ++ [(nl.length : Int) % 256, (nl.length : Int) / 256 % 256]) (m := nl) (by rw [LD]; exact hn6) (fun W hW => NW.out W (hb6.trans hW)) hb6.size (by rw [LD]; have := LP.out; omega) OKN
            rw [LD, ← ES2.out] at this
            exact this
          clear hD DL OKN
          go_wp2_with (at_builtin; refine wpList_append_ty rfl _ _ 24 24 rfl _ _ _ rfl rfl R5.out ?_)
          go_region_held3 (fun w' => w'.cell? ⟨wr.heap.size, 5, none⟩ = some (.slice xa nl.length xc))
            (first | exact HG.out _ _ GR7.out | exact HG.out _ _ GR6.out | exact HG.out _ _ (Gr.refl _ _).drew | exact x5)
            (first
              | (go_at_call 23; refine CW.out.mono ?_; rintro r w6 ⟨a6, c6, rfl, hn6, hg6⟩; have N6 : Hid (NewB w1.heap.size w6 (.slice a6 (A.length + 5 + 2) c6) (D ++ [(nl.length : Int) % 256, (nl.length : Int) / 256 % 256])) := hn6; have GR6 : Hid (Gr (.slice a5 (A.length + 5) c5) w5 (.slice a6 (A.length + 5 + 2) c6) w6) := ((Gr.refl _ w5).drew).trans hg6; clear hn6 hg6)
              | (go_at_call 22; refine (CN.out _ _ _ (B5.out.trans (GR6.out.below N5.out.row B5.out.size)) N6.out).mono ?_; rintro r w7 ⟨a7, c7, rfl, hn7, hg7⟩; have N7 : Hid (NewB w1.heap.size w7 (.slice a7 F'.length c7) F') := hn7; have GR7 : Hid (Gr (.slice a5 (A.length + 5) c5) w5 (.slice a7 F'.length c7) w7) := GR6.out.trans hg7; clear hn7 hg7))
          all_goals
            go_wp2
            go_roundw
            case rel => exact ⟨k + 1, a7, c7, by omega, by rw [← HF'.out], by go_num, by rw [← HF'.out]; exact N7.out, B5.out.trans (GR7.out.below N5.out.row B5.out.size)⟩
            case measure => simp [intOf]; omega
        · have b1 : (q0 == 1) = false := by simpa using h1
          rw [if_neg h1, List.append_nil] at ES
          clear h1
          go_wp2_with (at_builtin; refine wpList_append_ty rfl _ _ 24 24 rfl _ _ _ rfl rfl R5.out ?_)
          go_roundw
          case rel => exact ⟨k + 1, a5, c5, by omega, by rw [← HF'.out, ES.out]; simp, by go_num, by rw [← HF'.out, ES.out]; simpa using N5.out, B5.out⟩
          case measure => simp [intOf]; omega
      · obtain rfl : k = n := by omega
        have EQ : Hid ((k : Int) :: packN E N k = PL) := EP.out.symm
        rw [EQ.out] at NK ⊢
        go_wp2
        go_ret2
        exact ⟨_, _, rfl, NK.out.mono B1.out.size, bTrans B1.out BK.out⟩
end Go.Proofs.Ythmmeapokhfdiaa
namespace Go.Proofs.Ythmmeapokhfdiaa
open Go.RowKit
set_option linter.unusedVariables false
set_option linter.unusedSimpArgs false
set_option maxRecDepth 20000 in
set_option maxHeartbeats 4000000 in
/-- l11Takes. -/
theorem takes_spec (e0 e1 e2 e3 e4 : Int) (xa : Option Addr) (n c : Nat) (w : World) :
    Calls Try.prog 42 #[.agg #[.int .i64 e0, .int .i64 e1, .int .i64 e2, .int .i64 e3, .int .i64 e4, .slice xa n c]] w fun r w' => r = .returned (.tuple #[.int .i64 (takesN e0), .int .i64 (1 - takesN e0)]) ∧ Below w.heap.size w w' := by
  by_cases h1 : e0 = 1
  · subst h1
    go_enter Try.func42, Try.ntmps42
    go_wp2
    go_ret2
    exact ⟨rfl, bAlloc (Below.refl _ _) _⟩
  by_cases h2 : e0 = 2
  · subst h2
    go_enter Try.func42, Try.ntmps42
    go_wp2
    go_ret2
    exact ⟨rfl, bAlloc (Below.refl _ _) _⟩
  by_cases h5 : e0 = 5
  · subst h5
    go_enter Try.func42, Try.ntmps42
    go_wp2
    go_ret2
    exact ⟨rfl, bAlloc (Below.refl _ _) _⟩
  have T : Hid (takesN e0 = 1) := by show _ = _; unfold takesN; rw [if_neg (by omega), if_neg (by omega)]
  have b1 : (e0 == 1) = false := by simpa using h1
  have b2 : (e0 == 2) = false := by simpa using h2
  have b5 : (e0 == 5) = false := by simpa using h5
  go_enter Try.func42, Try.ntmps42
  go_wp2
  go_ret2
  exact ⟨by rw [T.out]; rfl, bAlloc (Below.refl _ _) _⟩
set_option maxRecDepth 20000 in
set_option maxHeartbeats 4000000 in
/-- l9Nums. -/
theorem nums9_spec {l : List Int} {w : World} {a : Option Addr} (c : Nat) (h : Ints w a l) (hl : l.length ≤ 1048576) :
    Calls Try.prog 39 #[.slice a l.length c] w fun e w' => e = .returned (.bool (numsB l)) ∧ w' = w := by
  have H : Hid (Ints w a l) := h
  clear h
  have HG : Hid (l.all ok = true → numsB l = (decide (1 ≤ (l.length : Int)) && decide ((l.length : Int) ≤ 300))) := fun h => by
    unfold numsB
    rw [h, Bool.and_true, Bool.eq_iff_iff]
    simp
    omega
  have HF : Hid (l.all ok = false → numsB l = false) := fun h => by unfold numsB; rw [h, Bool.and_false]
  generalize numsB l = Q at *
  go_enter Try.func39, Try.ntmps39
  go_wp2
  go_loopw [3] (fun i w' => ∃ k : Nat, k ≤ l.length ∧ i = .int .i64 (k : Int) ∧ (l.take k).all ok = true ∧ w' = w) (fun i _ => l.length - (intOf i).toNat)
  case atStart => exact ⟨0, by omega, rfl, by simp, rfl⟩
  case round =>
    obtain ⟨k, hk, rfl, ht, hw⟩ := hrel
    subst hw
    have HT : Hid ((l.take k).all ok = true) := ht
    clear ht
    by_cases hlt : (k : Int) < (l.length : Int)
    · have L : k < l.length := by omega
      obtain ⟨b1, o1, rfl, _, c1⟩ := H.out.at L
      have d1 : wr.cell? ⟨b1, o1 + k, none⟩ = some (.int .i64 (l.getD k 0)) := c1
      have QT : Hid ((l.take (k + 1)).all ok = ((l.take k).all ok && ok (l.getD k 0))) := by show _ = _; rw [take_snoc L, all_snocN]
      have QB : Hid (ok (l.getD k 0) = false → Q = false) := fun h => HF.out (by
        rw [List.all_eq_false]
        exact ⟨l.getD k 0, by simp [L], by rw [h]; decide⟩)
      clear c1 L
      generalize l.getD k 0 = x at d1 QT QB
      cases hx : ok x
      · have QF : Hid (Q = false) := QB.out hx
        clear QT QB
        go_wp2_with fail
        refine (numOk_spec x _).mono ?_
        rintro r w' ⟨rfl, hw⟩
        subst w'
        rw [hx]
        go_wp2
        go_ret
        exact ⟨by rw [QF.out]; rfl, rfl⟩
      · have HT' : Hid ((l.take (k + 1)).all ok = true) := by show _ = _; rw [QT.out, HT.out, hx]; rfl
        clear QT QB
        go_wp2_with fail
        refine (numOk_spec x _).mono ?_
        rintro r w' ⟨rfl, hw⟩
        subst w'
        rw [hx]
        go_wp2
        go_roundw
        case rel => exact ⟨k + 1, by omega, by go_num, HT'.out, trivial⟩
        case measure => simp [intOf]; omega
    · obtain rfl : k = l.length := by omega
      have QG : Hid (Q = (decide (1 ≤ (l.length : Int)) && decide ((l.length : Int) ≤ 300))) := HG.out (by have := HT.out; rwa [List.take_length] at this)
      go_wp2_with fail
      refine (in_spec _ _ _ _).mono ?_
      rintro r w' ⟨rfl, hw⟩
      subst w'
      go_wp2
      go_ret
      exact ⟨by rw [QG.out]; rfl, rfl⟩
end Go.Proofs.Ythmmeapokhfdiaa
namespace Go.Proofs.Ythmmeapokhfdiaa
open Go.RowKit
set_option linter.unusedVariables false
set_option linter.unusedSimpArgs false
section
variable {e1 e2 e3 e4 : Int} {l : List Int} {w : World} {xa : Option Addr} {xc : Nat}
set_option maxRecDepth 20000 in
set_option maxHeartbeats 8000000 in
theorem ins_spec1 (h : IntsI w (.slice xa l.length xc) l) (hl : l.length ≤ 1048576) : Calls Try.prog 31 #[.agg #[.int .i64 1, .int .i64 e1, .int .i64 e2, .int .i64 e3, .int .i64 e4, .slice xa l.length xc]] w fun r w' => r = .returned (.bool (decide (e1 = 0) && noFun e2 e3 e4 && numsB l)) ∧ Below w.heap.size w w' := by
  obtain ⟨_, _, ev, _, hi⟩ := h
  cases ev
  have HN : Hid (∀ W, Below w.heap.size w W → Calls Try.prog 39 #[.slice xa l.length xc] W fun e w' => e = .returned (.bool (numsB l)) ∧ w' = W) := fun W hb => nums9_spec xc (hi.keep hb) hl
  clear hi
  generalize numsB l = q at *
  go_enter Try.func31, Try.ntmps31
  go_wp2_with (go_at_call 39; refine (HN.out _ two_below).mono ?_; rintro r w1 ⟨rfl, hw⟩; subst w1)
  all_goals
    go_ret
    refine ⟨ret_bool ?_, two_below⟩
    simp_all [noFun]
set_option maxRecDepth 20000 in
set_option maxHeartbeats 8000000 in
theorem ins_spec2 (h : IntsI w (.slice xa l.length xc) l) (hl : l.length ≤ 1048576) : Calls Try.prog 31 #[.agg #[.int .i64 2, .int .i64 e1, .int .i64 e2, .int .i64 e3, .int .i64 e4, .slice xa l.length xc]] w fun r w' => r = .returned (.bool (decide (0 ≤ e1 ∧ e1 ≤ 25) && noFun e2 e3 e4 && decide (l.length = 0))) ∧ Below w.heap.size w w' := by
  have E : decide (0 ≤ e1 ∧ e1 ≤ 25) = (decide (0 ≤ e1) && decide (e1 ≤ 25)) := by rw [Bool.eq_iff_iff]; simp
  rw [E]
  clear E h
  generalize l.length = n at *
  cases hq : (decide (0 ≤ e1) && decide (e1 ≤ 25))
  · go_enter Try.func31, Try.ntmps31
    go_wp2_with (go_at_call 30; refine (in_spec _ _ _ _).mono ?_; rintro r w1 ⟨rfl, hw⟩; subst w1; rw [hq])
    all_goals
      go_ret
      exact ⟨by simp, two_below⟩
  · go_enter Try.func31, Try.ntmps31
    go_wp2_with (go_at_call 30; refine (in_spec _ _ _ _).mono ?_; rintro r w1 ⟨rfl, hw⟩; subst w1; rw [hq])
    all_goals
      go_ret
      refine ⟨ret_bool ?_, two_below⟩
      clear hq
      first | (simp_all [noFun]; done) | (simp_all [noFun]; rw [Bool.eq_iff_iff]; simp; done) | (simp_all [noFun]; rw [Bool.eq_iff_iff]; simp; omega)
set_option maxRecDepth 20000 in
set_option maxHeartbeats 8000000 in
theorem ins_spec3 (h : IntsI w (.slice xa l.length xc) l) (hl : l.length ≤ 1048576) : Calls Try.prog 31 #[.agg #[.int .i64 3, .int .i64 e1, .int .i64 e2, .int .i64 e3, .int .i64 e4, .slice xa l.length xc]] w fun r w' => r = .returned (.bool (decide (0 ≤ e1 ∧ e1 ≤ 25) && noFun e2 e3 e4 && decide (l.length = 0))) ∧ Below w.heap.size w w' := by
  have E : decide (0 ≤ e1 ∧ e1 ≤ 25) = (decide (0 ≤ e1) && decide (e1 ≤ 25)) := by rw [Bool.eq_iff_iff]; simp
  rw [E]
  clear E h
  generalize l.length = n at *
  cases hq : (decide (0 ≤ e1) && decide (e1 ≤ 25))
  · go_enter Try.func31, Try.ntmps31
    go_wp2_with (go_at_call 30; refine (in_spec _ _ _ _).mono ?_; rintro r w1 ⟨rfl, hw⟩; subst w1; rw [hq])
    all_goals
      go_ret
      exact ⟨by simp, two_below⟩
  · go_enter Try.func31, Try.ntmps31
    go_wp2_with (go_at_call 30; refine (in_spec _ _ _ _).mono ?_; rintro r w1 ⟨rfl, hw⟩; subst w1; rw [hq])
    all_goals
      go_ret
      refine ⟨ret_bool ?_, two_below⟩
      clear hq
      first | (simp_all [noFun]; done) | (simp_all [noFun]; rw [Bool.eq_iff_iff]; simp; done) | (simp_all [noFun]; rw [Bool.eq_iff_iff]; simp; omega)
set_option maxRecDepth 20000 in
set_option maxHeartbeats 8000000 in
theorem ins_spec4 (h : IntsI w (.slice xa l.length xc) l) (hl : l.length ≤ 1048576) : Calls Try.prog 31 #[.agg #[.int .i64 4, .int .i64 e1, .int .i64 e2, .int .i64 e3, .int .i64 e4, .slice xa l.length xc]] w fun r w' => r = .returned (.bool (decide (e1 = 0) && funOneB e2 e3 e4 && decide (l.length = 0))) ∧ Below w.heap.size w w' := by
  clear h
  generalize l.length = n at *
  by_cases h1 : e1 = 0
  · subst h1
    have HF : Hid (∀ W, Calls Try.prog 40 #[.agg #[.int .i64 e2, .int .i64 e3, .int .i64 e4]] W fun e w' => e = .returned (.bool (funOneB e2 e3 e4)) ∧ Below W.heap.size W w') := fun W => funOne_spec _ _ _ _
    generalize funOneB e2 e3 e4 = q at *
    go_enter Try.func31, Try.ntmps31
    go_wp2_with fail
    refine (HF.out _).mono ?_
    rintro r w1 ⟨rfl, hb⟩
    have B1 : Hid (Below w.heap.size w w1) := bTrans two_below hb
    have c5 : w1.cell? ⟨w.heap.size, 5, none⟩ = some (.slice xa n xc) := (hb.cell (p := ⟨w.heap.size, 5, none⟩) (by simp; omega)).trans (cell_at (two_blocks9 w (.cells #[.int .i64 4, .int .i64 0, .int .i64 e2, .int .i64 e3, .int .i64 e4, .slice xa n xc] 47) (.cells #[.int .i64 0, .int .i64 0, .int .i64 0] 45)).1 rfl)
    clear hb HF
    cases q
    · go_wp2
      go_ret
      exact ⟨by simp, B1.out⟩
    · go_wp2
      all_goals
        go_ret
        refine ⟨ret_bool ?_, B1.out⟩
        first | (simp_all; done) | (simp_all; rw [Bool.eq_iff_iff]; simp; done) | (simp_all; rw [Bool.eq_iff_iff]; simp; omega)
  · have b1 : (e1 == 0) = false := by simpa using h1
    have d1 : decide (e1 = 0) = false := decide_eq_false h1
    rw [d1]
    clear h1
    go_enter Try.func31, Try.ntmps31
    go_wp2
    go_ret
    exact ⟨by simp, two_below⟩
set_option maxRecDepth 20000 in
set_option maxHeartbeats 8000000 in
theorem ins_spec5 (h : IntsI w (.slice xa l.length xc) l) (hl : l.length ≤ 1048576) : Calls Try.prog 31 #[.agg #[.int .i64 5, .int .i64 e1, .int .i64 e2, .int .i64 e3, .int .i64 e4, .slice xa l.length xc]] w fun r w' => r = .returned (.bool (decide (e1 = 0) && funTwoB e2 e3 e4 && decide (l.length = 0))) ∧ Below w.heap.size w w' := by
  clear h
  generalize l.length = n at *
  by_cases h1 : e1 = 0
  · subst h1
    have HF : Hid (∀ W, Calls Try.prog 41 #[.agg #[.int .i64 e2, .int .i64 e3, .int .i64 e4]] W fun e w' => e = .returned (.bool (funTwoB e2 e3 e4)) ∧ Below W.heap.size W w') := fun W => funTwo_spec _ _ _ _
    generalize funTwoB e2 e3 e4 = q at *
    go_enter Try.func31, Try.ntmps31
    go_wp2_with fail
    refine (HF.out _).mono ?_
    rintro r w1 ⟨rfl, hb⟩
    have B1 : Hid (Below w.heap.size w w1) := bTrans two_below hb
    have c5 : w1.cell? ⟨w.heap.size, 5, none⟩ = some (.slice xa n xc) := (hb.cell (p := ⟨w.heap.size, 5, none⟩) (by simp; omega)).trans (cell_at (two_blocks9 w (.cells #[.int .i64 5, .int .i64 0, .int .i64 e2, .int .i64 e3, .int .i64 e4, .slice xa n xc] 47) (.cells #[.int .i64 0, .int .i64 0, .int .i64 0] 45)).1 rfl)
    clear hb HF
    cases q
    · go_wp2
      go_ret
      exact ⟨by simp, B1.out⟩
    · go_wp2
      all_goals
        go_ret
        refine ⟨ret_bool ?_, B1.out⟩
        first | (simp_all; done) | (simp_all; rw [Bool.eq_iff_iff]; simp; done) | (simp_all; rw [Bool.eq_iff_iff]; simp; omega)
  · have b1 : (e1 == 0) = false := by simpa using h1
    have d1 : decide (e1 = 0) = false := decide_eq_false h1
    rw [d1]
    clear h1
    go_enter Try.func31, Try.ntmps31
    go_wp2
    go_ret
    exact ⟨by simp, two_below⟩
set_option maxRecDepth 20000 in
set_option maxHeartbeats 8000000 in
theorem ins_spec0 {e0 : Int} (h1 : e0 ≠ 1) (h2 : e0 ≠ 2) (h3 : e0 ≠ 3) (h4 : e0 ≠ 4) (h5 : e0 ≠ 5) : Calls Try.prog 31 #[.agg #[.int .i64 e0, .int .i64 e1, .int .i64 e2, .int .i64 e3, .int .i64 e4, .slice xa l.length xc]] w fun r w' => r = .returned (.bool false) ∧ Below w.heap.size w w' := by
  have b1 : (e0 == 1) = false := by simpa using h1
  have b2 : (e0 == 2) = false := by simpa using h2
  have b3 : (e0 == 3) = false := by simpa using h3
  have b4 : (e0 == 4) = false := by simpa using h4
  have b5 : (e0 == 5) = false := by simpa using h5
  clear h1 h2 h3 h4 h5
  go_enter Try.func31, Try.ntmps31
  go_wp2
  go_ret
  exact ⟨rfl, two_below⟩
end
theorem insB_of (e : Nat → Int) (l : List Int) : insB e l = if e 0 = 1 then decide (e 1 = 0) && noFun (e 2) (e 3) (e 4) && numsB l
  else if e 0 = 2 ∨ e 0 = 3 then decide (0 ≤ e 1 ∧ e 1 ≤ 25) && noFun (e 2) (e 3) (e 4) && decide (l.length = 0)
  else if e 0 = 4 then decide (e 1 = 0) && funOneB (e 2) (e 3) (e 4) && decide (l.length = 0)
  else if e 0 = 5 then decide (e 1 = 0) && funTwoB (e 2) (e 3) (e 4) && decide (l.length = 0)
  else false := rfl
/-- The specification's l11Instr. -/
theorem ins_spec (e : Nat → Int) {l : List Int} {w : World} {xa : Option Addr} {xc : Nat} (h : IntsI w (.slice xa l.length xc) l) (hl : l.length ≤ 1048576) : Calls Try.prog 31 #[.agg #[.int .i64 (e 0), .int .i64 (e 1), .int .i64 (e 2), .int .i64 (e 3), .int .i64 (e 4), .slice xa l.length xc]] w fun r w' => r = .returned (.bool (insB e l)) ∧ Below w.heap.size w w' := by
  rw [insB_of]
  by_cases h1 : e 0 = 1
  · rw [if_pos h1, h1]; exact ins_spec1 h hl
  rw [if_neg h1]
  by_cases h2 : e 0 = 2
  · rw [if_pos (.inl h2), h2]; exact ins_spec2 h hl
  by_cases h3 : e 0 = 3
  · rw [if_pos (.inr h3), h3]; exact ins_spec3 h hl
  rw [if_neg (fun h => h.elim h2 h3)]
  by_cases h4 : e 0 = 4
  · rw [if_pos h4, h4]; exact ins_spec4 h hl
  rw [if_neg h4]
  by_cases h5 : e 0 = 5
  · rw [if_pos h5, h5]; exact ins_spec5 h hl
  rw [if_neg h5]
  exact ins_spec0 h1 h2 h3 h4 h5
end Go.Proofs.Ythmmeapokhfdiaa
namespace Go.Proofs.Ythmmeapokhfdiaa
open Go.RowKit
set_option linter.unusedVariables false
set_option linter.unusedSimpArgs false
/-- How many there are ahead of each of the first k, and behind them. -/
def deps (E : Nat → Nat → Int) (k : Nat) : List Int := (List.range (k + 1)).map (dep E)
theorem deps_snoc (E : Nat → Nat → Int) (k : Nat) : deps E (k + 1) = deps E k ++ [dep E (k + 1)] := by unfold deps; rw [List.range_succ, List.map_append]; rfl
theorem deps_len (E : Nat → Nat → Int) (k : Nat) : (deps E k).length = k + 1 := by simp [deps]
theorem deps_at (E : Nat → Nat → Int) {k i : Nat} (h : i < k + 1) : (deps E k).getD i 0 = dep E i := by simp [deps, List.getD_eq_getElem?_getD, h]
/-- What l11Depths answers. -/
def DepPost (w : World) (n : Nat) (E : Nat → Nat → Int) (r : Ending) (w' : World) : Prop := (∃ (ad : Option Addr) (k cd : Nat), r = .returned (.tuple #[.slice ad k cd, .bool false]) ∧ ¬ (∀ i, i < n → takesN (E i 0) ≤ dep E i) ∧ Below w.heap.size w w') ∨ (∃ (ad : Option Addr) (cd : Nat), r = .returned (.tuple #[.slice ad (n + 1) cd, .bool true]) ∧ (∀ i, i < n → takesN (E i 0) ≤ dep E i) ∧ Ints w' ad (deps E n) ∧ Below w.heap.size w w')
set_option maxRecDepth 20000 in
set_option maxHeartbeats 8000000 in
/-- l11Depths. -/
theorem depths_spec {w : World} {v : Value} {n : Nat} {E : Nat → Nat → Int} {N : Nat → List Int} (h : InsI w v n E N) (hn : n ≤ 60) :
    Calls Try.prog 32 #[v] w fun r w' => DepPost w n E r w' := by
  have H : Hid (InsI w v n E N) := h
  obtain ⟨a, c, rfl, _⟩ := h
  go_enter Try.func32, Try.ntmps32
  go_wp2
  generalize hW : w.alloc (.cells #[.int .i64 0] 3) = W0
  have N0 : Hid (NewInts w.heap.size W0 (.slice (some ⟨w.heap.size, 0, none⟩) (0 + 1) 1) (deps E 0)) := by rw [← hW]; exact newInts_alloc w [0] (Nat.le_refl _) (by simp)
  have B0 : Hid (Below w.heap.size w W0) := by rw [← hW]; exact bAlloc (Below.refl _ _) _
  clear hW
  go_loopw [4, 5, 6] (fun u m i w' => ∃ (k : Nat) (ad : Option Addr) (cd : Nat), k ≤ n ∧ u = .slice ad (k + 1) cd ∧ m = .int .i64 (dep E k) ∧ i = .int .i64 (k : Int) ∧ (∀ i, i < k → takesN (E i 0) ≤ dep E i) ∧ NewInts w.heap.size w' (.slice ad (k + 1) cd) (deps E k) ∧ Below w.heap.size w w') (fun _ _ i _ => n - (intOf i).toNat)
  case atStart => exact ⟨0, _, _, by omega, rfl, rfl, rfl, fun i hi => absurd hi (by omega), N0.out, B0.out⟩
  case round =>
    obtain ⟨k, ad, cd, hk, rfl, rfl, rfl, hA, hN, hB⟩ := hrel
    have HA : Hid (∀ i, i < k → takesN (E i 0) ≤ dep E i) := hA
    have NK : Hid (NewInts w.heap.size wr (.slice ad (k + 1) cd) (deps E k)) := hN
    have BK : Hid (Below w.heap.size w wr) := hB
    clear hA hN hB N0 B0
    by_cases hlt : (k : Int) < (n : Int)
    · have L : k < n := by omega
      obtain ⟨o, off, xa, xc, rfl, ho, ⟨p0, p1, p2, p3, p4, p5⟩, _⟩ := (H.out.keep BK.out).at L
      have CT : Hid (Calls Try.prog 42 #[.agg #[.int .i64 (E k 0), .int .i64 (E k 1), .int .i64 (E k 2), .int .i64 (E k 3), .int .i64 (E k 4), .slice xa (N k).length xc]] wr fun r w' => r = .returned (.tuple #[.int .i64 (takesN (E k 0)), .int .i64 (1 - takesN (E k 0))]) ∧ Below wr.heap.size wr w') := takes_spec _ _ _ _ _ _ _ _ _
      have NX : Hid (takesN (E k 0) ≤ dep E k → ∀ i, i < k + 1 → takesN (E i 0) ≤ dep E i) := fun h i hi => by
        by_cases e : i = k
        · rw [e]; exact h
        · exact HA.out i (by omega)
      have BX : Hid (dep E k < takesN (E k 0) → ¬ ∀ i, i < n → takesN (E i 0) ≤ dep E i) := fun h g => by have := g k L; omega
      obtain ⟨D1, hD1⟩ : ∃ D1, D1 = dep E (k + 1) := ⟨_, rfl⟩
      have HD1 : Hid (D1 = dep E (k + 1)) := hD1
      have ED : Hid (D1 = dep E k + (1 - takesN (E k 0))) := hD1
      have EL : Hid (deps E (k + 1) = deps E k ++ [D1]) := by rw [hD1]; exact deps_snoc E k
      clear hD1
      have LL : Hid ((deps E k).length = k + 1) := deps_len E k
      have t0 := takesN_cases (E k 0)
      have d0 := (dep_pos HA.out).1
      have d1 := dep_le E k
      clear ho
      generalize takesN (E k 0) = z at *
      generalize E k 0 = q0 at *
      generalize E k 1 = q1 at *
      generalize E k 2 = q2 at *
      generalize E k 3 = q3 at *
      generalize E k 4 = q4 at *
      generalize (N k).length = nl at *
      generalize dep E k = D at *
      by_cases hz : D < z
      · have NO : Hid (¬ ∀ i, i < n → takesN (E i 0) ≤ dep E i) := BX.out hz
        clear NX BX
        go_wp2_with fail
        refine CT.out.mono ?_
        rintro r w2 ⟨rfl, hb⟩
        have B2 : Hid (Below w.heap.size w w2) := bTrans BK.out hb
        clear hb
        go_wp2
        go_ret2
        exact .inl ⟨_, _, _, rfl, NO.out, B2.out⟩
      · have YE : Hid (∀ i, i < k + 1 → takesN (E i 0) ≤ dep E i) := NX.out (by omega)
        clear NX BX
        have hw : IntKind.i64.wrap (D + (1 - z)) = D1 := by rw [ED.out, IntKind.wrap_i64]; omega
        go_wp2_with fail
        refine CT.out.mono ?_
        rintro r w2 ⟨rfl, hb⟩
        have B2 : Hid (Below w.heap.size w w2) := bTrans BK.out hb
        obtain ⟨a5, c5, w5, hr, h5, hb5⟩ := grow1 D1 (NK.out.keep hb) B2.out.size (by rw [LL.out]; omega)
        rw [LL.out] at hr h5
        rw [← EL.out] at h5
        have R5 : Hid ((Builtin.append_ #[41, 41] 41 #[.slice ad (k + 1) cd, .slice (some ⟨w2.heap.size, 0, none⟩) 1 1]).run Try.prog (w2.alloc (.cells #[.int .i64 D1] 3)) = .ok (.slice a5 (k + 1 + 1) c5) w5) := hr
        have N5 : Hid (NewInts w.heap.size w5 (.slice a5 (k + 1 + 1) c5) (deps E (k + 1))) := h5
        have B5 : Hid (Below w.heap.size w w5) := B2.out.trans hb5
        clear hr h5 hb5 hb
        go_wp2_with (at_builtin; refine wpList_append_ty rfl _ _ 41 41 rfl _ _ _ rfl rfl R5.out ?_)
        go_roundw
        case rel => exact ⟨k + 1, _, _, by omega, rfl, by rw [HD1.out], by go_num, YE.out, N5.out, B5.out⟩
        case measure => simp [intOf]; omega
    · obtain rfl : k = n := by omega
      go_wp2
      go_ret2
      refine .inr ⟨_, _, rfl, HA.out, ?_, BK.out⟩
      obtain ⟨_, _, ev, _, hi⟩ := NK.out.piece.intsI
      rw [deps_len] at ev
      cases ev
      exact hi
set_option maxRecDepth 20000 in
set_option maxHeartbeats 8000000 in
/-- The specification's CodeOk. -/
theorem codeOk_spec {w : World} {v : Value} {n : Nat} {E : Nat → Nat → Int} {N : Nat → List Int} (h : InsI w v n E N) (hl : ∀ i, (N i).length ≤ 1048576) (hn : n ≤ 1048576) :
    Calls Try.prog 19 #[v] w fun r w' => r = .returned (.bool (codeB n E N)) ∧ Below w.heap.size w w' := by
  have H : Hid (InsI w v n E N) := h
  have HL : Hid (∀ i, (N i).length ≤ 1048576) := hl
  clear hl
  obtain ⟨a, c, rfl, _⟩ := h
  by_cases hc : 1 ≤ n ∧ n ≤ 60
  · have hq : (decide ((1 : Int) ≤ (n : Int)) && decide ((n : Int) ≤ 60)) = true := by simp; omega
    have GD : Hid ((∀ i, i < n → insB (E i) (N i) = true) → (∀ i, i < n → takesN (E i 0) ≤ dep E i) → codeB n E N = decide (dep E n = 1)) := fun h1 h2 => by
      by_cases h3 : dep E n = 1
      · rw [decide_eq_true h3]; exact codeB_true ⟨hc.1, hc.2, h1, h2, h3⟩
      · rw [decide_eq_false h3]; exact codeB_false fun h => h3 h.2.2.2.2
    have BD : Hid (∀ i, i < n → insB (E i) (N i) = false → codeB n E N = false) := fun i hi h => codeB_false fun g => by have := g.2.2.1 i hi; rw [h] at this; exact absurd this (by decide)
    have BE : Hid (¬ (∀ i, i < n → takesN (E i 0) ≤ dep E i) → codeB n E N = false) := fun h => codeB_false fun g => h g.2.2.2.1
    have LD : Hid ((deps E n).getD n 0 = dep E n) := deps_at E (by omega)
    have LN : Hid (n < (deps E n).length) := by show _ < _; rw [deps_len]; omega
    generalize codeB n E N = Q at *
    have hc1 := hc.1
    have hc2 := hc.2
    clear hc
    go_enter Try.func19, Try.ntmps19
    go_wp2_with fail
    refine (in_spec _ _ _ _).mono ?_
    rintro r w1 ⟨rfl, hw⟩
    subst w1
    rw [hq]
    go_wp2_with fail
    go_loopw [3] (fun i w' => ∃ k : Nat, k ≤ n ∧ i = .int .i64 (k : Int) ∧ (∀ i, i < k → insB (E i) (N i) = true) ∧ Below w.heap.size w w') (fun i _ => n - (intOf i).toNat)
    case atStart => exact ⟨0, by omega, rfl, fun i hi => absurd hi (by omega), Below.refl _ _⟩
    case round =>
      obtain ⟨k, hk, rfl, hA, hb⟩ := hrel
      have HA : Hid (∀ i, i < k → insB (E i) (N i) = true) := hA
      have HB : Hid (Below w.heap.size w wr) := hb
      clear hA hb
      by_cases hlt : (k : Int) < (n : Int)
      · have L : k < n := by omega
        obtain ⟨o, off, xa, xc, rfl, ho, ⟨p0, p1, p2, p3, p4, p5⟩, ar⟩ := (H.out.keep HB.out).at L
        have CI : Hid (Calls Try.prog 31 #[.agg #[.int .i64 (E k 0), .int .i64 (E k 1), .int .i64 (E k 2), .int .i64 (E k 3), .int .i64 (E k 4), .slice xa (N k).length xc]] wr fun r w' => r = .returned (.bool (insB (E k) (N k))) ∧ Below wr.heap.size wr w') := ins_spec (E k) ar (HL.out k)
        have NX : Hid (insB (E k) (N k) = true → ∀ i, i < k + 1 → insB (E i) (N i) = true) := fun h i hi => by
          by_cases e : i = k
          · rw [e]; exact h
          · exact HA.out i (by omega)
        have BX : Hid (insB (E k) (N k) = false → Q = false) := BD.out k L
        clear ho ar
        generalize insB (E k) (N k) = q at *
        generalize E k 0 = q0 at *
        generalize E k 1 = q1 at *
        generalize E k 2 = q2 at *
        generalize E k 3 = q3 at *
        generalize E k 4 = q4 at *
        generalize (N k).length = nl at *
        cases q
        · have QF : Hid (Q = false) := BX.out rfl
          clear NX BX
          go_wp2_with fail
          refine CI.out.mono ?_
          rintro r w2 ⟨rfl, hb⟩
          have B2 : Hid (Below w.heap.size w w2) := bTrans HB.out hb
          clear hb
          go_wp2
          go_ret
          exact ⟨by rw [QF.out]; rfl, B2.out⟩
        · have NY : Hid (∀ i, i < k + 1 → insB (E i) (N i) = true) := NX.out rfl
          clear NX BX
          go_wp2_with fail
          refine CI.out.mono ?_
          rintro r w2 ⟨rfl, hb⟩
          have B2 : Hid (Below w.heap.size w w2) := bTrans HB.out hb
          clear hb
          go_wp2
          go_roundw
          case rel => exact ⟨k + 1, by omega, by go_num, NY.out, B2.out⟩
          case measure => simp [intOf]; omega
      · obtain rfl : k = n := by omega
        go_wp2_with fail
        refine (depths_spec (H.out.keep HB.out) hc2).mono ?_
        rintro r w2 (⟨ad, j, cd, rfl, hno, hb⟩ | ⟨ad, cd, rfl, hye, hi, hb⟩)
        · have QF : Hid (Q = false) := BE.out hno
          have B2 : Hid (Below w.heap.size w w2) := bTrans HB.out hb
          clear hb hno
          go_wp2
          go_ret
          exact ⟨by rw [QF.out]; rfl, B2.out⟩
        · have QT : Hid (Q = decide (dep E k = 1)) := GD.out HA.out hye
          have B2 : Hid (Below w.heap.size w w2) := bTrans HB.out hb
          obtain ⟨b1, o1, rfl, _, c1⟩ := hi.at LN.out
          rw [LD.out] at c1
          clear hb hye hi
          generalize dep E k = D at *
          have hkk : (k : Int) < ((k + 1 : Nat) : Int) := by omega
          go_wp2
          all_goals
            go_ret
            refine ⟨ret_bool ?_, B2.out⟩
            rw [QT.out]
            first | rfl | (simp_all; done) | (rw [Bool.eq_iff_iff]; simp)
  · have hq : (decide ((1 : Int) ≤ (n : Int)) && decide ((n : Int) ≤ 60)) = false := by
      cases hz : (decide ((1 : Int) ≤ (n : Int)) && decide ((n : Int) ≤ 60))
      · rfl
      · simp at hz; omega
    rw [codeB_false (fun h => hc ⟨h.1, h.2.1⟩)]
    clear hc
    go_enter Try.func19, Try.ntmps19
    go_wp2_with fail
    refine (in_spec _ _ _ _).mono ?_
    rintro r w1 ⟨rfl, hw⟩
    subst w1
    rw [hq]
    go_wp2
    go_ret
    exact ⟨rfl, Below.refl _ _⟩
end Go.Proofs.Ythmmeapokhfdiaa
namespace Go.Proofs.Ythmmeapokhfdiaa
open Go.RowKit
set_option linter.unusedVariables false
set_option linter.unusedSimpArgs false
set_option maxRecDepth 20000 in
set_option maxHeartbeats 8000000 in
/-- The specification's CodePack. -/
theorem codePack_spec {w : World} {v : Value} {n : Nat} {E : Nat → Nat → Int} {N : Nat → List Int} (h : InsI w v n E N) (hl : ∀ i, (N i).length ≤ 1048576) (hn : n ≤ 1048576) :
    Calls Try.prog 6 #[v] w fun r w' => PackPost w (codeB n E N) (if codeB n E N = true then packL n E N else []) r w' := by
  have H : Hid (InsI w v n E N) := h
  have CO : Hid (Calls Try.prog 19 #[v] w fun r w' => r = .returned (.bool (codeB n E N)) ∧ Below w.heap.size w w') := codeOk_spec h hl hn
  clear hl
  obtain ⟨a, c, rfl, _⟩ := h
  cases hc : codeB n E N
  · rw [hc] at CO
    rw [if_neg (by decide)]
    clear hc
    go_enter Try.func6, Try.ntmps6
    go_wp2_with fail
    refine CO.out.mono ?_
    rintro r w1 ⟨rfl, hb⟩
    have B1 : Hid (Below w.heap.size w w1) := hb
    clear hb
    go_wp2
    go_ret2
    exact ⟨_, _, rfl, newB_alloc w1 [] B1.out.size (by simp), bAlloc B1.out _⟩
  · rw [if_pos rfl]
    have hp := codeB_iff.1 hc
    have n60 : n ≤ 60 := hp.2.1
    have HI : Hid (∀ i, i < n → insB (E i) (N i) = true) := hp.2.2.1
    have HN : Hid (∀ i, i < n → (N i).length ≤ 300) := fun i hi => (insB_len (hp.2.2.1 i hi)).1
    rw [hc] at CO
    clear hc hp
    have EP : Hid (packL n E N = (n : Int) :: packN E N n) := rfl
    generalize packL n E N = PL at *
    go_enter Try.func6, Try.ntmps6
    go_wp2_with fail
    refine CO.out.mono ?_
    rintro r w1 ⟨rfl, hb⟩
    have B1 : Hid (Below w.heap.size w w1) := hb
    clear hb CO
    go_wp2_with fail
    generalize hW : w1.alloc (.cells #[.int .u8 (n : Int)] 5) = W1
    have N1 : Hid (NewB w1.heap.size W1 (.slice (some ⟨w1.heap.size, 0, none⟩) 1 1) ((n : Int) :: packN E N 0)) := by rw [← hW]; exact newB_alloc w1 [(n : Int)] (Nat.le_refl _) (by simp)
    have BB1 : Hid (Below w1.heap.size w1 W1) := by rw [← hW]; exact one_below
    clear hW
    go_loopw [4, 5] (fun u i w' => ∃ (k : Nat) (a1 : Option Addr) (c1 : Nat), k ≤ n ∧ u = .slice a1 ((n : Int) :: packN E N k).length c1 ∧ i = .int .i64 (k : Int) ∧ NewB w1.heap.size w' (.slice a1 ((n : Int) :: packN E N k).length c1) ((n : Int) :: packN E N k) ∧ Below w1.heap.size w1 w') (fun _ i _ => n - (intOf i).toNat)
    case atStart => exact ⟨0, _, _, by omega, rfl, rfl, N1.out, BB1.out⟩
    case round =>
      obtain ⟨k, a1, c1, hk, rfl, rfl, hN, hb⟩ := hrel
      have NK : Hid (NewB w1.heap.size wr (.slice a1 ((n : Int) :: packN E N k).length c1) ((n : Int) :: packN E N k)) := hN
      have BK : Hid (Below w1.heap.size w1 wr) := hb
      clear hN hb N1 BB1
      by_cases hlt : (k : Int) < (n : Int)
      · have L : k < n := by omega
        obtain ⟨o, off, xa, xc, rfl, ho, ⟨p0, p1, p2, p3, p4, p5⟩, ar⟩ := (H.out.keep (bTrans B1.out BK.out)).at L
        obtain ⟨_, _, ev, _, hi0⟩ := ar
        cases ev
        have NW : Hid (∀ W, Below w1.heap.size w1 W → Ints W xa (N k)) := by
          obtain ⟨o', off', xa', xc', e', ho', ⟨_, _, _, _, _, c5'⟩, ar'⟩ := H.out.at L
          cases e'
          have ec := (bTrans B1.out BK.out).cell (p := ⟨o, off + k * 6 + 5, none⟩) ho'
          rw [p5, c5'] at ec
          simp only [Option.some.injEq, Value.slice.injEq] at ec
          obtain ⟨_, _, ev', _, hi'⟩ := ar'
          cases ev'
          rw [← ec.1] at hi'
          exact fun W hW => hi'.keep (bTrans B1.out hW)
        have OK : Hid (E k 0 = 1 → (N k).all ok = true) := (insB_len (HI.out k L)).2
        have L3 : (N k).length ≤ 300 := HN.out k L
        have LP : Hid (((n : Int) :: packN E N k).length ≤ 144421) := by
          have := packN_len (E := E) (fun i hi => HN.out i hi) (Nat.le_of_lt L)
          show _ ≤ _
          simp only [List.length_cons]
          omega
        have ES : Hid ((n : Int) :: packN E N (k + 1) = ((n : Int) :: packN E N k) ++ packI (E k) (N k)) := rfl
        have EI : Hid (packI (E k) (N k) = [E k 0 % 256, E k 1 % 256, E k 2 % 256, E k 3 % 256, E k 4 % 256] ++ if E k 0 = 1 then [((N k).length : Int) % 256, ((N k).length : Int) / 256 % 256] ++ numsBy (N k) else []) := rfl
        obtain ⟨F', hF'⟩ : ∃ F', F' = (n : Int) :: packN E N (k + 1) := ⟨_, rfl⟩
        have HF' : Hid (F' = (n : Int) :: packN E N (k + 1)) := hF'
        rw [← hF', EI.out] at ES
        clear hF' EI hi0 L ho
        generalize (n : Int) :: packN E N k = A at *
        generalize N k = nl at *
        generalize E k 0 = q0 at *
        generalize E k 1 = q1 at *
        generalize E k 2 = q2 at *
        generalize E k 3 = q3 at *
        generalize E k 4 = q4 at *
        have hnew := heap_alloc_new wr (.cells #[.int .i64 q0, .int .i64 q1, .int .i64 q2, .int .i64 q3, .int .i64 q4, .slice xa nl.length xc] 47)
        obtain ⟨Wa, hWa⟩ : ∃ Wa, Wa = wr.alloc (.cells #[.int .i64 q0, .int .i64 q1, .int .i64 q2, .int .i64 q3, .int .i64 q4, .slice xa nl.length xc] 47) := ⟨_, rfl⟩
        have SZ : Wa.heap.size = wr.heap.size + 1 := by rw [hWa]; simp
        have BWa : Hid (Below w1.heap.size w1 Wa) := by rw [hWa]; exact bAlloc BK.out _
        have NKa : NewB w1.heap.size Wa (.slice a1 A.length c1) A := by rw [hWa]; exact NK.out.keep one_below
        obtain ⟨a5, c5, w5, hr, h5, hg5⟩ := growBs [q0 % 256, q1 % 256, q2 % 256, q3 % 256, q4 % 256] NKa BWa.out.size (by have := LP.out; simp; omega)
        rw [show (A ++ [q0 % 256, q1 % 256, q2 % 256, q3 % 256, q4 % 256]).length = A.length + 5 by simp] at hr h5 hg5
        have R5 : Hid ((Builtin.append_ #[24, 24] 24 #[.slice a1 A.length c1, .slice (some ⟨wr.heap.size + 1, 0, none⟩) 5 5]).run Try.prog ((wr.alloc (.cells #[.int .i64 q0, .int .i64 q1, .int .i64 q2, .int .i64 q3, .int .i64 q4, .slice xa nl.length xc] 47)).alloc (.cells #[.int .u8 (q0 % 256), .int .u8 (q1 % 256), .int .u8 (q2 % 256), .int .u8 (q3 % 256), .int .u8 (q4 % 256)] 5)) = .ok (.slice a5 (A.length + 5) c5) w5) := by show _ = _; rw [← hWa, ← SZ]; simpa [bvals] using hr
        have BX : Hid (w5.heap[wr.heap.size]? = some (.cells #[.int .i64 q0, .int .i64 q1, .int .i64 q2, .int .i64 q3, .int .i64 q4, .slice xa nl.length xc] 47 (0, 0))) := by
          show _ = _
          rw [hg5.block wr.heap.size (by omega) (fun e => by have := NK.out.own_lt _ e.symm; omega), hWa]
          exact hnew
        have N5 : Hid (NewB w1.heap.size w5 (.slice a5 (A.length + 5) c5) (A ++ [q0 % 256, q1 % 256, q2 % 256, q3 % 256, q4 % 256])) := h5
        have O5 : Hid (∀ j, (Value.slice a5 (A.length + 5) c5).ownBlock = some j → j ≠ wr.heap.size) := fun j hj => by
          rcases hg5.own with e | ⟨o, e, ho⟩
          · have := NK.out.own_lt j (by rw [← e]; exact hj)
            omega
          · rw [e] at hj
            cases hj
            omega
        have B5 : Hid (Below w1.heap.size w1 w5) := BWa.out.trans (hg5.below NKa.row BWa.out.size)
        clear hr h5 hg5 hnew NKa hWa SZ BWa
        have x0 : w5.cell? ⟨wr.heap.size, 0, none⟩ = some (.int .i64 q0) := cell_at BX.out rfl
        have x5 : w5.cell? ⟨wr.heap.size, 5, none⟩ = some (.slice xa nl.length xc) := cell_at BX.out rfl
        by_cases h1 : q0 = 1
        · subst h1
          rw [if_pos rfl] at ES
          have OKN : Hid (nl.all ok = true) := OK.out rfl
          have HG : Hid (∀ (v' : Value) (W : World), Gr (.slice a5 (A.length + 5) c5) w5 v' W → W.cell? ⟨wr.heap.size, 5, none⟩ = some (.slice xa nl.length xc)) := fun v' W hg => by
            have e : W.heap[wr.heap.size]? = _ := (hg.block wr.heap.size (lt_of_heapA BX.out) (fun e => O5.out _ e.symm rfl)).trans BX.out
            exact cell_at e rfl
          obtain ⟨D, hD⟩ : ∃ D, D = A ++ [1 % 256, q1 % 256, q2 % 256, q3 % 256, q4 % 256] := ⟨_, rfl⟩
          have DL : D.length = A.length + 5 := by rw [hD]; simp
          rw [← hD] at N5
          have ES2 : Hid (F' = (D ++ [(nl.length : Int) % 256, (nl.length : Int) / 256 % 256]) ++ numsBy nl) := by show _ = _; rw [ES.out, hD]; simp
          obtain ⟨a6, c6, w6, hr, h6, hg6⟩ := growBs [(nl.length : Int) % 256, (nl.length : Int) / 256 % 256] N5.out B5.out.size (by have := LP.out; rw [DL]; simp; omega)
          obtain ⟨G0, hG0⟩ : ∃ G0, G0 = D ++ [(nl.length : Int) % 256, (nl.length : Int) / 256 % 256] := ⟨_, rfl⟩
          have LG0 : G0.length = A.length + 5 + 2 := by rw [hG0, List.length_append, DL]; rfl
          rw [← hG0] at hr h6 hg6 ES2
          rw [LG0] at hr h6 hg6
          have R6 : Hid ((Builtin.append_ #[24, 24] 24 #[.slice a5 (A.length + 5) c5, .slice (some ⟨w5.heap.size, 0, none⟩) 2 2]).run Try.prog (w5.alloc (.cells #[.int .u8 ((nl.length : Int) % 256), .int .u8 ((nl.length : Int) / 256)] 5)) = .ok (.slice a6 (A.length + 5 + 2) c6) w6) := by show _ = _; rw [show ((nl.length : Int) / 256) = (nl.length : Int) / 256 % 256 by omega]; simpa [bvals] using hr
          have N6 : Hid (NewB w1.heap.size w6 (.slice a6 G0.length c6) G0) := by show NewB _ _ _ _; rw [LG0]; exact h6
          have GR6 : Hid (Gr (.slice a5 (A.length + 5) c5) w5 (.slice a6 G0.length c6) w6) := by show Gr _ _ _ _; rw [LG0]; exact hg6
          have LG : Hid (G0.length = A.length + 5 + 2) := LG0
          have BE : Hid (∀ (v' : Value) (W : World), Gr (.slice a5 (A.length + 5) c5) w5 v' W → Below w1.heap.size w1 W) := fun v' W hg => B5.out.trans (hg.below N5.out.row B5.out.size)
          have LGB : Hid (G0.length + 8 * nl.length ≤ 1000000) := by have := LP.out; show _ ≤ _; rw [LG0]; omega
          clear hD DL hr h6 hg6 hG0 LG0
          go_wp2_with (first | (at_builtin; refine wpList_append_ty rfl _ _ 24 24 rfl _ _ _ rfl rfl R5.out ?_) | (at_builtin; refine wpList_append_ty rfl _ _ 24 24 rfl _ _ _ rfl rfl R6.out ?_))
          generalize wr.heap.size = bx at *
          rw [show A.length + 5 + 2 = G0.length from LG.out.symm]
          go_loopw [4, 7] (fun u i w' => ∃ (k : Nat) (a2 : Option Addr) (c2 : Nat), k ≤ nl.length ∧ u = .slice a2 (G0 ++ numsBy (nl.take k)).length c2 ∧ i = .int .i64 (k : Int) ∧ NewB w1.heap.size w' (.slice a2 (G0 ++ numsBy (nl.take k)).length c2) (G0 ++ numsBy (nl.take k)) ∧ Gr (.slice a5 (A.length + 5) c5) w5 u w') (fun _ i _ => nl.length - (intOf i).toNat)
          case atStart => exact ⟨0, a6, c6, by omega, by simp [numsBy], rfl, by simpa [numsBy] using N6.out, by simpa using GR6.out⟩
          case round =>
            obtain ⟨k2, a2, c2, hk2, rfl, rfl, hN, hG⟩ := hrel
            have NK2 : Hid (NewB w1.heap.size wr (.slice a2 (G0 ++ numsBy (nl.take k2)).length c2) (G0 ++ numsBy (nl.take k2))) := hN
            have GK : Hid (Gr (.slice a5 (A.length + 5) c5) w5 (.slice a2 (G0 ++ numsBy (nl.take k2)).length c2) wr) := hG
            have p5 : wr.cell? ⟨bx, 5, none⟩ = some (.slice xa nl.length xc) := HG.out _ _ hG
            clear hN hG x0 x5
            by_cases hlt2 : (k2 : Int) < (nl.length : Int)
            · have L2 : k2 < nl.length := by omega
              obtain ⟨b1, o1, rfl, _, cx⟩ := (NW.out _ (BE.out _ _ GK.out)).at L2
              have ET : Hid (G0 ++ numsBy (nl.take (k2 + 1)) = (G0 ++ numsBy (nl.take k2)) ++ num8 (nl.getD k2 0 + 1000000000000)) := by show _ = _; rw [numsBy_take L2, List.append_assoc]
              have LA : Hid ((G0 ++ numsBy (nl.take k2)).length + 8 ≤ 1000000) := by
                have := LGB.out
                show _ ≤ _
                rw [List.length_append, numsBy_len, List.length_take]
                omega
              have OKx : ok (nl.getD k2 0) = true := List.all_eq_true.1 OKN.out (nl.getD k2 0) (by simp [L2])
              obtain ⟨F2, hF2⟩ : ∃ F2, F2 = G0 ++ numsBy (nl.take (k2 + 1)) := ⟨_, rfl⟩
              have HF2 : Hid (F2 = G0 ++ numsBy (nl.take (k2 + 1))) := hF2
              rw [← hF2] at ET
              clear hF2 L2
              generalize G0 ++ numsBy (nl.take k2) = A2 at *
              generalize nl.getD k2 0 = x at *
              have x0 : -1000000000000 ≤ x ∧ x ≤ 1000000000000 := by unfold ok at OKx; simpa using OKx
              clear OKx
              obtain ⟨y, hy⟩ : ∃ y, y = x + 1000000000000 := ⟨_, rfl⟩
              have y0 : 0 ≤ y := by omega
              have y1 : y ≤ 2000000000000 := by omega
              rw [← hy] at ET
              have HY : Hid (x + 1000000000000 = y) := hy.symm
              clear hy
              go_wp2_with fail
              rw [HY.out]
              go_loopw [4, 9] (fun u i w' => ∃ (j : Nat) (a3 : Option Addr) (c3 : Nat), j ≤ 8 ∧ u = .slice a3 (A2 ++ (num8 y).take j).length c3 ∧ i = .int .i64 (j : Int) ∧ NewB w1.heap.size w' (.slice a3 (A2 ++ (num8 y).take j).length c3) (A2 ++ (num8 y).take j) ∧ Gr (.slice a5 (A.length + 5) c5) w5 u w') (fun _ i _ => 8 - (intOf i).toNat)
              case atStart => exact ⟨0, a2, c2, by omega, by simp, rfl, by simpa using NK2.out, by simpa using GK.out⟩
              case round =>
                obtain ⟨j, a3, c3, hj, rfl, rfl, hN, hb⟩ := hrel
                have NJ : Hid (NewB w1.heap.size wr (.slice a3 (A2 ++ (num8 y).take j).length c3) (A2 ++ (num8 y).take j)) := hN
                have BJ : Hid (Gr (.slice a5 (A.length + 5) c5) w5 (.slice a3 (A2 ++ (num8 y).take j).length c3) wr) := hb
                clear hN hb
                by_cases hjt : (j : Int) < 8
                · have LJ : j < 8 := by omega
                  have EJ : A2 ++ (num8 y).take (j + 1) = (A2 ++ (num8 y).take j) ++ [y / 256 ^ j % 256] := by rw [num8_take y LJ, List.append_assoc]
                  have LJ2 : (A2 ++ (num8 y).take j).length ≤ 1000000 := by have := LA.out; rw [List.length_append, List.length_take, num8_len]; omega
                  obtain ⟨G', hG'⟩ : ∃ G', G' = A2 ++ (num8 y).take (j + 1) := ⟨_, rfl⟩
                  have HG' : Hid (G' = A2 ++ (num8 y).take (j + 1)) := hG'
                  rw [← hG'] at EJ
                  clear hG'
                  generalize A2 ++ (num8 y).take j = G at *
                  obtain ⟨a5', c5', w5', hr, h5, hb5⟩ := growBs [y / 256 ^ j % 256] NJ.out (BE.out _ _ BJ.out).size (by simp; omega)
                  rw [← EJ] at hr h5
                  have LG' : Hid (G'.length = G.length + 1) := by show _ = _; rw [EJ]; simp
                  rw [LG'.out] at hr h5
                  rw [show (G ++ [y / 256 ^ j % 256]).length = G.length + 1 by simp] at hb5
                  have EP2 : (256 : Int) ^ j = 2 ^ (8 * j) := by rw [Int.pow_mul]; rfl
                  have R9 : Hid ((Builtin.append_ #[24, 24] 24 #[.slice a3 G.length c3, .slice (some ⟨wr.heap.size, 0, none⟩) 1 1]).run Try.prog (wr.alloc (.cells #[.int .u8 (y / 2 ^ (8 * j) % 256)] 5)) = .ok (.slice a5' (G.length + 1) c5') w5') := by show _ = _; rw [← EP2]; simpa [bvals] using hr
                  have N9 : Hid (NewB w1.heap.size w5' (.slice a5' (G.length + 1) c5') G') := h5
                  have B9 : Hid (Gr (.slice a5 (A.length + 5) c5) w5 (.slice a5' (G.length + 1) c5') w5') := BJ.out.trans hb5
                  clear hr h5 hb5 EJ EP2
                  go_wp2_with (at_builtin; refine wpList_append_ty rfl _ _ 24 24 rfl _ _ _ rfl rfl R9.out ?_)
                  go_roundw
                  case rel => exact ⟨j + 1, a5', c5', by omega, by rw [← HG'.out, LG'.out], by go_num, by rw [← HG'.out, LG'.out]; exact N9.out, B9.out⟩
                  case measure => simp [intOf]; omega
                · obtain rfl : j = 8 := by omega
                  have E8 : Hid (A2 ++ (num8 y).take 8 = F2) := by show _ = _; rw [ET.out, List.take_of_length_le (by rw [num8_len]; omega)]
                  rw [E8.out] at NJ BJ ⊢
                  go_wp2
                  go_roundw
                  case rel => exact ⟨k2 + 1, a3, c3, by omega, by rw [← HF2.out], by go_num, by rw [← HF2.out]; exact NJ.out, BJ.out⟩
                  case measure => simp [intOf]; omega
            · obtain rfl : k2 = nl.length := by omega
              have E8 : nl.take nl.length = nl := List.take_length
              rw [E8, ← ES2.out] at NK2 GK ⊢
              go_wp2
              go_roundw
              case rel => exact ⟨k + 1, a2, c2, by omega, by rw [← HF'.out], by go_num, by rw [← HF'.out]; exact NK2.out, BE.out _ _ GK.out⟩
              case measure => simp [intOf]; omega
        · have b1 : (q0 != 1) = true := by simpa using h1
          rw [if_neg h1, List.append_nil] at ES
          clear h1
          go_wp2_with (at_builtin; refine wpList_append_ty rfl _ _ 24 24 rfl _ _ _ rfl rfl R5.out ?_)
          go_roundw
          case rel => exact ⟨k + 1, a5, c5, by omega, by rw [← HF'.out, ES.out]; simp, by go_num, by rw [← HF'.out, ES.out]; simpa using N5.out, B5.out⟩
          case measure => simp [intOf]; omega
      · obtain rfl : k = n := by omega
        have EQ : Hid ((k : Int) :: packN E N k = PL) := EP.out.symm
        rw [EQ.out] at NK ⊢
        go_wp2
        go_ret2
        exact ⟨_, _, rfl, NK.out.mono B1.out.size, bTrans B1.out BK.out⟩
end Go.Proofs.Ythmmeapokhfdiaa
namespace Go.Proofs.Ythmmeapokhfdiaa
open Go.RowKit
set_option linter.unusedVariables false
set_option linter.unusedSimpArgs false
theorem l11_some {b : List Int} {g off n c p m : Nat} {w : World} (h : Bys w (some ⟨g, off, none⟩) b) (hb : isB b) (hn : b.length = n) (hp : p ≤ n) (hm : n ≤ 1048576) (hi : insLen (b.drop p) = some m) :
    Calls Try.prog 26 #[.slice (some ⟨g, off, none⟩) n c, .int .i64 (p : Int)] w fun r w' => RdPost w p m (b.drop p) r w' := by
  unfold insLen at hi
  rw [List.length_drop, hn] at hi
  split at hi
  · cases hi
  split at hi
  · split at hi
    · cases hi
    split at hi
    · cases hi
    · cases hi
      exact l11_nums h hb hn hp hm (by omega) (by assumption) (by omega) (by omega)
  · cases hi
    exact l11_plain h hb hn hp hm (by omega) (by assumption)
theorem l11_none {b : List Int} {g off n c p : Nat} {w : World} (h : Bys w (some ⟨g, off, none⟩) b) (hb : isB b) (hn : b.length = n) (hp : p ≤ n) (hm : n ≤ 1048576) (hi : insLen (b.drop p) = none) :
    Calls Try.prog 26 #[.slice (some ⟨g, off, none⟩) n c, .int .i64 (p : Int)] w fun r w' => RdEnd w r w' := by
  unfold insLen at hi
  rw [List.length_drop, hn] at hi
  split at hi
  · exact l11_short hp hm (by omega)
  split at hi
  · split at hi
    · exact l11_ends1 h hb hn hp hm (by omega) (by assumption) (by omega)
    split at hi
    · exact l11_ends2 h hb hn hp hm (by omega) (by assumption) (by omega) (by omega)
    · cases hi
  · cases hi
theorem pack_take {b : List Int} (hb : isB b) {x : Int} {t : List Int} (e : b = x :: t) {p : Nat} (hp : plc b x.toNat = some p) (hc : codeB x.toNat (rdE b) (rdN b) = true) : packL x.toNat (rdE b) (rdN b) = b.take p := by
  have h1 : 1 ≤ b.length := by rw [e]; simp
  have hx := hb x (by rw [e]; simp)
  have q := packN_read hb h1 hp (codeB_iff.1 hc).2.2.1
  have hp1 := plc_le h1 hp
  have ex : ((x.toNat : Nat) : Int) = x := by omega
  unfold packL
  rw [q, ex]
  cases p with
  | zero => omega
  | succ p => rw [e]; simp
theorem str_size (xs : List Int) : (strOfNums xs).size = xs.length := by simp [strOfNums, ByteArray.size]
set_option maxRecDepth 20000 in
set_option maxHeartbeats 8000000 in
/-- The specification's CodeRead. -/
theorem codeRead_spec {b : List Int} {a : Option Addr} {c : Nat} {w : World} (h : Bys w a b) (hb : isB b) (hm : b.length ≤ 1048576) :
    Calls Try.prog 14 #[.slice a b.length c] w fun r w' => ∃ u, r = .returned (.tuple #[u, .bool (readB b)]) ∧ InsW w.heap.size w'.heap.size w' u (if readB b = true then (b.getD 0 0).toNat else 0) (rdE b) (rdN b) ∧ Below w.heap.size w w' := by
  by_cases h0 : b.length = 0
  · obtain rfl : b = [] := List.eq_nil_of_length_eq_zero h0
    show Calls Try.prog _ #[.slice a 0 c] w fun r w' => ∃ u, r = .returned (.tuple #[u, .bool false]) ∧ InsW w.heap.size w'.heap.size w' u (if false = true then _ else 0) _ _ ∧ _
    rw [if_neg (by decide)]
    clear h hb hm h0
    go_enter Try.func14, Try.ntmps14
    go_wp2
    go_ret2
    exact ⟨_, rfl, InsW.nil _ _, bAlloc (Below.refl _ _) _⟩
  · obtain ⟨g, off, rfl, hg, c0⟩ := h.at (k := 0) (by omega)
    rw [Nat.add_zero] at c0
    have H : Hid (Bys w (some ⟨g, off, none⟩) b) := h
    have HB : Hid (isB b) := hb
    have b0 := isB_getD hb 0
    obtain ⟨n, hn⟩ : ∃ n, n = (b.getD 0 0).toNat := ⟨_, rfl⟩
    have en : b.getD 0 0 = (n : Int) := by omega
    have n255 : n ≤ 255 := by omega
    have RB0 : Hid (plc b n = none → readB b = false) := fun h => by
      cases b with
      | nil => simp at h0
      | cons x t => simp only [readB]; rw [show x.toNat = n from hn.symm, h]
    have RB1 : Hid (∀ p, plc b n = some p → readB b = (decide (p = b.length) && codeB n (rdE b) (rdN b))) := fun p h => by
      cases b with
      | nil => simp at h0
      | cons x t => simp only [readB]; rw [show x.toNat = n from hn.symm, h]
    have PK : Hid (∀ p, plc b n = some p → codeB n (rdE b) (rdN b) = true → packL n (rdE b) (rdN b) = b.take p) := fun p h hc => by
      cases b with
      | nil => simp at h0
      | cons x t => have := pack_take (b := x :: t) hb rfl (p := p) (by rw [show x.toNat = n from hn.symm]; exact h) (by rw [show x.toNat = n from hn.symm]; exact hc); rw [show x.toNat = n from hn.symm] at this; exact this
    rw [← hn]
    rw [en] at c0
    obtain ⟨N, hN⟩ : ∃ N, N = b.length := ⟨_, rfl⟩
    have HN : Hid (N = b.length) := hN
    rw [← hN] at hm h0 RB1 ⊢
    have P0 : Hid (plc b 0 = some 1) := rfl
    obtain ⟨QB, hQB⟩ : ∃ QB, QB = readB b := ⟨_, rfl⟩
    obtain ⟨QM, hQM⟩ : ∃ QM, QM = if readB b = true then n else 0 := ⟨_, rfl⟩
    have HQ1 : Hid (readB b = false → QB = false ∧ QM = 0) := fun e => ⟨by rw [hQB, e], by rw [hQM, e]; rfl⟩
    have HQ2 : Hid (readB b = true → QB = true ∧ QM = n) := fun e => ⟨by rw [hQB, e], by rw [hQM, e]; rfl⟩
    rw [← hQM, ← hQB]
    have SK : Hid (∀ W, Below w.heap.size w W → W.cell? ⟨g, off, none⟩ = some (.int .u8 (n : Int))) := fun W hb => (hb.cell (p := ⟨g, off, none⟩) hg).trans c0
    have i1 : ((N : Int) == 0) = false := by simp; omega
    have k0 : 0 < N := by omega
    have j0 : (0 : Int) < (N : Int) := by omega
    have wn : IntKind.i64.wrap (n : Int) = (n : Int) := by rw [IntKind.wrap_i64]; omega
    clear h hb hn en c0 hg hN b0 hQM hQB
    go_enter Try.func14, Try.ntmps14
    go_wp2_with fail
    have S0 := GIns.start (w.alloc (.cells #[] 47)) (Nat.le_refl _) (rdE b) (rdN b)
    simp only [World.size_alloc] at S0
    have BW0 : Hid (Below w.heap.size w (w.alloc (.cells #[] 47))) := bAlloc (Below.refl _ _) _
    have G1 : Hid (GIns (w.heap.size + 1) (w.alloc (.cells #[] 47)) ((w.alloc (.cells #[] 47)).alloc (.cells #[] 47)) (.slice (some ⟨w.heap.size + 1, 0, none⟩) 0 0) 0 (rdE b) (rdN b)) := S0
    have BX : Hid (∀ W, Below (w.heap.size + 1) (w.alloc (.cells #[] 47)) W → Below w.heap.size w W) := fun W hW => BW0.out.trans (hW.mono (by omega))
    generalize w.alloc (.cells #[] 47) = W0 at *
    clear S0
    go_loopw [5, 6, 7] (fun u at_ i w' => ∃ (k p : Nat) (a1 : Option Addr) (c1 : Nat), k ≤ n ∧ i = .int .i64 (k : Int) ∧ plc b k = some p ∧ p ≤ N ∧ at_ = .int .i64 (p : Int) ∧ u = .slice a1 k c1 ∧ GIns (w.heap.size + 1) W0 w' (.slice a1 k c1) k (rdE b) (rdN b)) (fun _ _ i _ => n - (intOf i).toNat)
    case atStart => exact ⟨0, 1, _, _, by omega, rfl, P0.out, by omega, rfl, rfl, G1.out⟩
    case round =>
      obtain ⟨k, p, a1, c1, hk, rfl, hp, hpN, rfl, rfl, hG⟩ := hrel
      have GK : Hid (GIns (w.heap.size + 1) W0 wr (.slice a1 k c1) k (rdE b) (rdN b)) := hG
      have BK : Hid (Below w.heap.size w wr) := BX.out wr hG.below
      have HP : Hid (plc b k = some p) := hp
      have cb := SK.out wr BK.out
      clear hp hG G1
      by_cases hlt : (k : Int) < (n : Int)
      · have L : k < n := by omega
        cases hi : insLen (b.drop p) with
        | none =>
          have CF : Hid (Calls Try.prog 26 #[.slice (some ⟨g, off, none⟩) N c, .int .i64 (p : Int)] wr fun r w' => r = .returned (.tuple #[.agg #[.int .i64 0, .int .i64 0, .int .i64 0, .int .i64 0, .int .i64 0, .slice none 0 0], .int .i64 (-1)]) ∧ Below wr.heap.size wr w') := l11_none (H.out.keep BK.out) HB.out HN.out.symm hpN hm hi
          have RF : Hid (readB b = false) := RB0.out (plc_none (plc_end HP.out hi) (by omega))
          clear hi
          go_wp2_with fail
          refine CF.out.mono ?_
          rintro r w2 ⟨rfl, hb2⟩
          have B2' : Hid (Below w.heap.size w w2) := bTrans BK.out hb2
          clear hb2 CF cb
          go_wp2
          go_ret2
          rw [(HQ1.out RF.out).1, (HQ1.out RF.out).2]
          exact ⟨_, rfl, InsW.nil _ _, bAlloc B2'.out _⟩
        | some m =>
          have ml_le := insLen_le hi
          rw [List.length_drop] at ml_le
          have PN : Hid (plc b (k + 1) = some (p + m)) := plc_next HP.out hi
          have EQ : rdE b k = insB1 (b.drop p) := by simp [rdE, HP.out]
          have EN : rdN b k = insB2 (b.drop p) := by simp [rdN, HP.out]
          have CF : Hid (Calls Try.prog 26 #[.slice (some ⟨g, off, none⟩) N c, .int .i64 (p : Int)] wr fun r w' => RdPost wr p m (b.drop p) r w') := l11_some (H.out.keep BK.out) HB.out HN.out.symm hpN hm hi
          unfold RdPost at CF
          have q0 : (b.drop p).getD 0 0 = rdE b k 0 := by rw [EQ]; rfl
          have q1 : (b.drop p).getD 1 0 = rdE b k 1 := by rw [EQ]; rfl
          have q2 : (b.drop p).getD 2 0 = rdE b k 2 := by rw [EQ]; rfl
          have q3 : (b.drop p).getD 3 0 = rdE b k 3 := by rw [EQ]; rfl
          have q4 : (b.drop p).getD 4 0 = rdE b k 4 := by rw [EQ]; rfl
          rw [← EN, q0, q1, q2, q3, q4] at CF
          have GROW : Hid (∀ (W : World) (xa : Option Addr) (xc : Nat), Below wr.heap.size wr W → Piece wr.heap.size W.heap.size W (.slice xa (rdN b k).length xc) (rdN b k) → ∃ a' c' w3, (Builtin.append_ #[27, 27] 27 #[.slice a1 k c1, .slice (some ⟨W.heap.size, 0, none⟩) 1 1]).run Try.prog (W.alloc (.cells #[.int .i64 (rdE b k 0), .int .i64 (rdE b k 1), .int .i64 (rdE b k 2), .int .i64 (rdE b k 3), .int .i64 (rdE b k 4), .slice xa (rdN b k).length xc] 47)) = .ok (.slice a' (k + 1) c') w3 ∧ GIns (w.heap.size + 1) W0 w3 (.slice a' (k + 1) c') (k + 1) (rdE b) (rdN b)) := fun W xa xc hW hp => by
            obtain ⟨a', c', w3, hr, hg, _⟩ := GK.out.grow hW (e := rdE b k) rfl hp (by omega)
            exact ⟨a', c', w3, hr, hg⟩
          have PM : Hid (p + m ≤ N) := by have := HN.out; show _ ≤ _; omega
          have pm0 : ¬ ((p + m : Nat) : Int) < 0 := by omega
          have pm1 : ¬ (p : Int) + (m : Int) < 0 := by omega
          clear q0 q1 q2 q3 q4 EQ EN hi ml_le
          generalize hml : (rdN b k).length = ml at *
          clear hml
          generalize rdE b k 0 = q0 at *
          generalize rdE b k 1 = q1 at *
          generalize rdE b k 2 = q2 at *
          generalize rdE b k 3 = q3 at *
          generalize rdE b k 4 = q4 at *
          go_wp2_with fail
          refine CF.out.mono ?_
          rintro r w2 ⟨xa2, xc2, rfl, hA, hb2⟩
          obtain ⟨Wb, hWb⟩ : ∃ Wb, Wb = w2.alloc (.cells #[.int .i64 q0, .int .i64 q1, .int .i64 q2, .int .i64 q3, .int .i64 q4, .slice xa2 ml xc2] 47) := ⟨_, rfl⟩
          have SZb : Wb.heap.size = w2.heap.size + 1 := by rw [hWb]; simp
          have bwb : Below w2.heap.size w2 Wb := by rw [hWb]; exact bAlloc (Below.refl _ _) _
          obtain ⟨a3, c3, w3, hr, hg⟩ := GROW.out Wb xa2 xc2 (bTrans hb2 bwb) ((hA.keep bwb).mono (Nat.le_refl _) bwb.size)
          rw [SZb, hWb] at hr
          have R3 : Hid ((Builtin.append_ #[27, 27] 27 #[.slice a1 k c1, .slice (some ⟨w2.heap.size + 1, 0, none⟩) 1 1]).run Try.prog ((w2.alloc (.cells #[.int .i64 q0, .int .i64 q1, .int .i64 q2, .int .i64 q3, .int .i64 q4, .slice xa2 ml xc2] 47)).alloc (.cells #[.int .i64 q0, .int .i64 q1, .int .i64 q2, .int .i64 q3, .int .i64 q4, .slice xa2 ml xc2] 47)) = .ok (.slice a3 (k + 1) c3) w3) := hr
          have G3 : Hid (GIns (w.heap.size + 1) W0 w3 (.slice a3 (k + 1) c3) (k + 1) (rdE b) (rdN b)) := hg
          clear hr hg SZb hWb bwb hA hb2 GROW CF cb
          go_wp2_with (at_builtin; refine wpList_append_ty rfl _ _ 27 27 rfl _ _ _ rfl rfl R3.out ?_)
          go_roundw
          case rel => exact ⟨k + 1, p + m, a3, c3, by omega, by go_num, PN.out, PM.out, by first | rfl | (congr 1; omega) | simp, rfl, G3.out⟩
          case measure => simp [intOf]; omega
      · obtain rfl : k = n := by omega
        have CP : Hid (Calls Try.prog 6 #[.slice a1 k c1] wr fun r w' => PackPost wr (codeB k (rdE b) (rdN b)) (if codeB k (rdE b) (rdN b) = true then packL k (rdE b) (rdN b) else []) r w') := codePack_spec GK.out.insW.list (fun i => Nat.le_trans (rdN_le HB.out i) (by decide)) (by omega)
        have RR := RB1.out p HP.out
        cases hcb : codeB k (rdE b) (rdN b)
        · rw [hcb] at CP RR
          rw [Bool.and_false] at RR
          rw [if_neg (by decide)] at CP
          have RF : Hid (readB b = false) := RR
          unfold PackPost at CP
          clear RR hcb
          go_wp2_with fail
          refine CP.out.mono ?_
          rintro r w2 ⟨ap, cp, rfl, hN2, hb2⟩
          have B2' : Hid (Below w.heap.size w w2) := bTrans BK.out hb2
          clear hb2 hN2 CP cb
          go_wp2
          go_ret2
          rw [(HQ1.out RF.out).1, (HQ1.out RF.out).2]
          exact ⟨_, rfl, InsW.nil _ _, B2'.out⟩
        · rw [hcb] at CP RR
          rw [Bool.and_true] at RR
          rw [if_pos rfl] at CP
          have PI := PK.out p HP.out hcb
          unfold PackPost at CP
          clear hcb
          generalize packL k (rdE b) (rdN b) = PL at *
          go_wp2_with fail
          refine CP.out.mono ?_
          rintro r w2 ⟨ap, cp, rfl, hN2, hb2⟩
          have B2' : Hid (Below w.heap.size w w2) := bTrans BK.out hb2
          have IW : Hid (InsW w.heap.size w2.heap.size w2 (.slice a1 k c1) k (rdE b) (rdN b)) := ((GK.out.keep hb2).insW).mono (by omega)
          have LP : PL.length = p := by rw [PI, List.length_take, ← HN.out]; omega
          have hp1 : 1 ≤ p := (plc_le (by rw [← HN.out]; omega) HP.out).2
          obtain ⟨ap', cp', e9, hy⟩ := hN2.bys
          cases e9
          have hyb := H.out.keep B2'.out
          obtain ⟨g2, o2, rfl, hg2, _⟩ := hy.at (k := 0) (by omega)
          have cl : ∀ i, i < PL.length → w2.cell? ⟨g2, o2 + i, none⟩ = some (.int .u8 (PL.getD i 0)) := fun i hi => by
            obtain ⟨_, _, e, _, q⟩ := hy.at hi
            cases e; exact q
          have cl2 : ∀ i, i < N → w2.cell? ⟨g, off + i, none⟩ = some (.int .u8 (b.getD i 0)) := fun i hi => by
            obtain ⟨_, _, e, _, q⟩ := hyb.at (k := i) (by rw [← HN.out]; exact hi)
            cases e; exact q
          have v1 : (convert 24 9 (.slice (some ⟨g2, o2, none⟩) PL.length cp)).run Try.prog w2 = .ok (.string (strOfNums PL)) w2 := run_convert_bytes_arg w2 _ _ Try.underlying24 Try.underlying5 g2 o2 _ cp PL rfl cl _ Try.underlying9
          have v2 : (convert 24 9 (.slice (some ⟨g, off, none⟩) N c)).run Try.prog w2 = .ok (.string (strOfNums b)) w2 := run_convert_bytes_arg w2 _ _ Try.underlying24 Try.underlying5 g off _ c b HN.out.symm cl2 _ Try.underlying9
          have ss : strOfNums PL = strOfNums b ↔ p = N := by
            constructor
            · intro e
              have := congrArg ByteArray.size e
              rw [str_size, str_size, ← HN.out] at this
              omega
            · intro e
              rw [PI, e, HN.out, List.take_length]
          clear cl cl2 hy hyb hg2 hN2 hb2 CP cb PI hp1 LP
          generalize PL.length = pl at *
          generalize strOfNums PL = t1 at *
          generalize strOfNums b = t2 at *
          by_cases hpe : p = N
          · obtain rfl := ss.2 hpe
            have RF : Hid (readB b = true) := by rw [hpe] at RR; show _ = _; simpa using RR
            clear RR ss hpe
            go_wp2
            go_ret2
            rw [(HQ2.out RF.out).1, (HQ2.out RF.out).2]
            exact ⟨_, rfl, IW.out, B2'.out⟩
          · have sn : ¬ t1.toList = t2.toList := fun e => hpe (ss.1 (by rw [Go.ByteArray.toList_eq, Go.ByteArray.toList_eq] at e; cases t1; cases t2; congr 1; exact Array.toList_inj.1 e))
            have sn1 : (t1.toList == t2.toList) = false := by simpa using sn
            have RF : Hid (readB b = false) := by rw [decide_eq_false hpe] at RR; exact RR
            clear RR ss hpe
            go_wp2
            go_ret2
            rw [(HQ1.out RF.out).1, (HQ1.out RF.out).2]
            exact ⟨_, rfl, InsW.nil _ _, B2'.out⟩
end Go.Proofs.Ythmmeapokhfdiaa
