/-
  Walks: a sync.Once that is not yet done (its lock free), and the words of the codes (the program's CodeText).
-/
import Derived.Test.YtnclnnkkkofjaaaDoorSmall
import Derived.Test.YtnclnnkkkofjaaaDoorLaysW
import Derived.Lib.AppendIntMem
import Derived.Lib.LaidTab
import Derived.Lib.LaidIn
import Derived.Defers
import Derived.Laws.Pointers
import Derived.Laws.LoneSync
import Derived.Laws.NewBlocks
import Derived.RegionTactic
import Derived.RegionCalls
namespace Go.Proofs.YtnclnnkkkofjaaaDoor
open Go.RowKit
set_option linter.unusedVariables false
set_option linter.unusedSimpArgs false
/-- The table of blanks stands, whatever is done to blocks from n on. -/
def TabN (n : Nat) (w : World) : Prop := Lib.TabBelow Tryd.prog n w "strings.asciiSpace" .u8 Lib.asciiSpaceTab
theorem TabN.on {n : Nat} {w w' : World} (h : TabN n w) (hb : Below n w w') : TabN n w' := Lib.TabBelow.on h hb
def TabW (w : World) : Prop := TabN w.heap.size w
theorem TabW.on {w w' : World} (h : TabW w) (hb : Below w.heap.size w w') : TabW w' := fun x hx => h x (hb.trans (hx.mono hb.size))
theorem disable1 (w : World) : (callFunc 32 #[]).run Tryd.prog w = .ok (.value (.tuple #[])) w := run_call_mark0 Tryd.func32 (by kernel_rfl) (by kernel_rfl) (by kernel_rfl) .disable (by kernel_rfl) w
theorem enable1 (w : World) : (callFunc 34 #[]).run Tryd.prog w = .ok (.value (.tuple #[])) w := run_call_mark0 Tryd.func34 (by kernel_rfl) (by kernel_rfl) (by kernel_rfl) .enable (by kernel_rfl) w
theorem acquire1 (a : Addr) (w : World) : (callFunc 35 #[.pointer (some a)]).run Tryd.prog w = .ok (.value (.tuple #[])) w := run_call_marked Tryd.func35 (by kernel_rfl) (by kernel_rfl) (by kernel_rfl) .acquire (by kernel_rfl) a w
theorem releaseMerge1 (a : Addr) (w : World) : (callFunc 37 #[.pointer (some a)]).run Tryd.prog w = .ok (.value (.tuple #[])) w := run_call_marked Tryd.func37 (by kernel_rfl) (by kernel_rfl) (by kernel_rfl) .releaseMerge (by kernel_rfl) a w
/-- '(*sync/atomic.Bool).Store(true)', entered as a deferred call. -/
theorem store_deferred (a : Addr) (x : Value) (u : FrameMode) (w : World) (hc : w.cell? a = some x) (hz : w.frozen? a = false) :
    CallsD Tryd.prog 24 #[.pointer (some a), .bool true] u w fun e u' w' => u' = u ∧ (e = .returned (.tuple #[]) ∧ w' = w.drew.setCell a (.int .u32 1)) := by
  have hc' : w.drew.cell? a = some x := by go_simp
  have hz' : w.drew.frozen? a = false := by go_simp
  have hst := run_call_store (P := Tryd.prog) Tryd.func28 (by kernel_rfl) (by kernel_rfl) (by kernel_rfl) (by kernel_rfl) (k := .u32) (y := 1) hc' hz'
  go_enter_d Tryd.func24, Tryd.ntmps24
  go_wp2
  go_region_calls
  all_goals (go_end0; exact ⟨rfl, rfl⟩)
/-- The lock is let go, entered as a deferred call (nobody waits). -/
theorem unlockI (a : Addr) (w : World) (hc : w.cell? a = some (.int .i32 1)) (hz : w.frozen? a = false) :
    Calls Tryd.prog 27 #[.pointer (some a)] w fun e w' => e = .returned (.tuple #[]) ∧ w' = w.setCell a (.int .i32 0) := by
  have hd := disable1
  have he := enable1
  have hr := releaseMerge1
  have hadd := run_call_add (P := Tryd.prog) Tryd.func38 (by kernel_rfl) (by kernel_rfl) (by kernel_rfl) .i32 (by kernel_rfl) (y := -1) (s := 0) hc hz (by simp [go_sem]; rfl)
  have hcv := run_convert_to_unsafe (P := Tryd.prog) (src := 81) (dst := 85) Tryd.underlying81 Tryd.underlying85 (by kernel_rfl) hc
  go_enter Tryd.func27, Tryd.ntmps27
  go_wp2
  go_end0
  exact ⟨rfl, rfl⟩
theorem unlock_deferred (a : Addr) (u : FrameMode) (w : World) (hc : w.cell? a = some (.int .i32 1)) (hz : w.frozen? a = false) :
    CallsD Tryd.prog 23 #[.pointer (some a)] u w fun e u' w' => u' = u ∧ (e = .returned (.tuple #[]) ∧ w' = w.setCell a (.int .i32 0)) := by
  go_enter_d Tryd.func23, Tryd.ntmps23
  go_wp2_with (go_at_call 27; refine (unlockI a _ hc hz).mono ?_; rintro e w' ⟨rfl, rfl⟩)
  go_end0
  exact ⟨rfl, rfl⟩
/-- The lock is taken, free. -/
theorem lockI (a : Addr) (w : World) (hc : w.cell? a = some (.int .i32 0)) (hz : w.frozen? a = false) :
    Calls Tryd.prog 26 #[.pointer (some a)] w fun e w' => e = .returned (.tuple #[]) ∧ w' = w.setCell a (.int .i32 1) := by
  have hd := disable1
  have he := enable1
  have ha := acquire1
  have hcas := run_call_cas_hit (P := Tryd.prog) Tryd.func33 (by kernel_rfl) (by kernel_rfl) (by kernel_rfl) .i32 (by kernel_rfl) (y := 1) hc hz
  have hc' : (w.setCell a (.int .i32 1)).cell? a = some (.int .i32 1) := World.cell?_setCell_same w a _ hc
  have hcv := run_convert_to_unsafe (P := Tryd.prog) (src := 81) (dst := 85) Tryd.underlying81 Tryd.underlying85 (by kernel_rfl) hc'
  go_enter Tryd.func26, Tryd.ntmps26
  go_wp2
  first | go_end0 | (simp only [Exit.inBlock, Exit.then]; refine bodyPost_ret (results_none rfl _ _ _) rfl ?_) | refine bodyPost_ret (results_none rfl _ _ _) rfl ?_
  exact ⟨rfl, rfl⟩
theorem lock_free (a : Addr) (w : World) (hc : w.cell? a = some (.int .i32 0)) (hz : w.frozen? a = false) :
    Calls Tryd.prog 22 #[.pointer (some a)] w fun e w' => e = .returned (.tuple #[]) ∧ w' = w.setCell a (.int .i32 1) := by
  go_enter Tryd.func22, Tryd.ntmps22
  go_wp2_with (go_at_call 26; refine (lockI a _ hc hz).mono ?_; rintro e w' ⟨rfl, rfl⟩)
  go_end0
  exact ⟨rfl, rfl⟩
/-- The words of the codes, as one text. -/
abbrev wordsT : ByteArray := ⟨#[111, 107, 32, 98, 97, 100, 32, 100, 111, 109, 97, 105, 110, 32, 108, 101, 110, 103, 116, 104, 32, 114, 97, 110, 107, 32, 105, 110, 100, 101, 120, 32, 108, 105, 109, 105, 116, 32, 118, 97, 108, 117, 101, 32, 115, 121, 110, 116, 97, 120, 32, 102, 117, 108, 108, 32, 115, 116, 101, 112, 115]⟩
/-- The words of the codes. -/
def wordsL : List ByteArray := [⟨#[111, 107]⟩, ⟨#[98, 97, 100]⟩, ⟨#[100, 111, 109, 97, 105, 110]⟩, ⟨#[108, 101, 110, 103, 116, 104]⟩, ⟨#[114, 97, 110, 107]⟩, ⟨#[105, 110, 100, 101, 120]⟩, ⟨#[108, 105, 109, 105, 116]⟩, ⟨#[118, 97, 108, 117, 101]⟩, ⟨#[115, 121, 110, 116, 97, 120]⟩, ⟨#[102, 117, 108, 108]⟩, ⟨#[115, 116, 101, 112, 115]⟩]
theorem wordsT_ascii : ∀ (j : Nat) (b : UInt8), wordsT.data.toList[j]? = some b → b.toNat < 128 := by
  intro j b h
  have hm : b ∈ wordsT.data.toList := List.mem_of_getElem? h
  have : ∀ x ∈ wordsT.data.toList, x.toNat < 128 := by decide
  exact this b hm
theorem wordsT_cut : Lib.fields wordsT.data.toList = wordsL.map (·.data.toList) := by decide +kernel
theorem wordsT_fields : (Lib.fields wordsT.data.toList).map (fun l => Value.string ⟨l.toArray⟩) = wordsL.map Value.string := by
  rw [wordsT_cut, List.map_map]
  apply List.map_congr_left
  intro x _
  simp
theorem wordsT_len : (Lib.fields wordsT.data.toList).length = 11 := by decide +kernel
theorem fields_words {n : Nat} {w : World} (ht : TabN n w) :
    Calls Tryd.prog 15 #[.string wordsT] w fun e w' => e = .returned (.slice (some ⟨w.heap.size, 0, none⟩) 11 11) ∧ w' = w.alloc (.cells (wordsL.map Value.string).toArray 9) := by
  have h := Any.strings_Fields Tryd.laysFields (by kernel_rfl) (by kernel_rfl) wordsT w (by decide) wordsT_ascii (Lib.TabBelow.here ht)
  rw [wordsT_len, wordsT_fields] at h
  exact h
end Go.Proofs.YtnclnnkkkofjaaaDoor
