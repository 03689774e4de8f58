/-
  Proved: at every row of bytes, the law FnSpaces returns true: of the text that the specification draws from it, the program's Lex tells the code and the place that the specification's tells; where the code is not nought, there are no tokens; and where it is, the same text between blanks (of up to 296 bytes) has the same tokens. Condition: as FnExactLex's: errors.errorType holds the handle of the type error, strconv.ErrRange and ErrSyntax hold errors, and strconv's table of powers of ten and the two tables of math/bits hold what their own initialisers lay (the card ties them to the text of the pruned copy of the project that the seat bears: it says nothing of packages beside it).
-/
import Derived.Test.YtcaidhmolnnikaaDoorRows
import Derived.WalkKit
import Derived.ProofKit
import Derived.OpenShut
import Derived.ShutString
import Derived.ChangeOld
import Derived.Below
import Derived.Deep.Cut
import Derived.Test.YtcaidhmolnnikaaDoorTie
import Derived.Test.YtcaidhmolnnikaaDoorCards
import Derived.LaidLaws
import Derived.LaidHandle
import Derived.Lib.LaidTab
import Derived.Lib.LaidIn
import Derived.SevenTiedAt
import Derived.Test.YtcaidhmolnnikaaDoorFrame
import Derived.Test.YtcaidhmolnnikaaDoorTokV
namespace Go.Proofs.YtcaidhmolnnikaaDoor.fnSpaces
open Go.ChangeShapes Go.WideShapes Go.ChangeAt Go.RowKit
open Go.ChangeMaps (open_string shut_string)
set_option linter.unusedVariables false
set_option linter.unusedSimpArgs false

theorem own : ownKnob Tryd.prog.godebug = none := by kernel_rfl
theorem laidOut : laidOutB Tryd.prog = true := by kernel_rfl

set_option maxRecDepth 20000 in
set_option maxHeartbeats 8000000 in
/-- The walk: the law returns true, and writes nothing that was there. -/
theorem walk (a0 : Option Addr) (len0 cap0 : Nat) (z0 : List Int) (w : World) (ht : ErrW w ∧ TypW w) (w0 : IsRow .u8 w a0 len0 cap0 z0) :
    Calls Tryd.prog 7 #[.slice a0 len0 cap0] w fun e w' => e = .returned (.bool true) ∧ Below w.heap.size w w' := by
  have HS : Hid (Src w.heap.size w a0 len0) := src_of_row w0
  have HER : Hid (ErrW w) := ht.1
  have HTY : Hid (TypW w) := ht.2
  clear w0 ht
  by_cases hbig : (1048576 : Int) < (len0 : Int)
  · go_enter Tryd.func7, Tryd.ntmps7
    go_wp2_with (go_at_call 13; refine (big_laws _ _ _ _).mono ?_; rintro e w' ⟨rfl, hw⟩; subst w')
    go_ret
    exact ⟨rfl, Below.refl _ _⟩
  have hb20 : len0 ≤ 1048576 := by omega
  go_enter Tryd.func7, Tryd.ntmps7
  go_wp2_with (go_at_call 13; refine (big_laws _ _ _ _).mono ?_; rintro e w' ⟨rfl, hw⟩; subst w')
  refine (drawLex_spec HS.out hb20).mono ?_
  rintro r w1 ⟨s, rfl, hs, hb⟩
  have HT1 : Hid (Below w.heap.size w w1) := hb
  clear hb HS hbig hb20
  obtain ⟨P, hP⟩ : ∃ P, P = (lexV s).1 := ⟨_, rfl⟩
  obtain ⟨cc, hcc⟩ : ∃ cc, cc = (lexV s).2.1 := ⟨_, rfl⟩
  obtain ⟨pl, hpl⟩ : ∃ pl : Int, pl = ((lexV s).2.2 : Int) := ⟨_, rfl⟩
  obtain ⟨PE, hPE⟩ : ∃ PE : Nat → Spn, PE = fun i => P.getD i spn0 := ⟨_, rfl⟩
  have SP : Hid (∀ W : World, Calls Tryd.prog 17 #[.string s] W fun r w' => ∃ v, r = .returned (.tuple #[v, .int .i64 cc, .int .i64 pl]) ∧ Below W.heap.size W w') := fun W => by
    rw [hcc, hpl]
    refine (lex_spec s (by omega) W).mono ?_
    rintro r w' ⟨v, rfl, hn, hb⟩
    exact ⟨v, rfl, hb⟩
  have IM : Hid (∀ W : World, Below w.heap.size w W → Calls Tryd.prog 18 #[.string s] W fun r w' => ∃ a c, r = .returned (.tuple #[.slice a P.length c, .int .i64 cc, .int .i64 pl]) ∧ SPiece W.heap.size w'.heap.size w' (.slice a P.length c) P.length PE ∧ Below W.heap.size W w') := fun W hW => by
    rw [hPE, hP, hcc, hpl]
    refine (lex_impl cut95 pre95 atoiD s (by omega) (HER.out.on hW) (HTY.out.on hW)).mono ?_
    rintro r w' ⟨v, rfl, hn, hb⟩
    have hp := hn.piece
    obtain ⟨a, c, rfl⟩ := hp.slice
    exact ⟨a, c, rfl, hp, hb⟩
  have IP : Hid (s.size ≤ 296 → cc = 0 → ∀ W : World, Below w.heap.size w W → Calls Tryd.prog 18 #[.string (⟨#[32, 32]⟩ ++ s ++ ⟨#[32, 32]⟩)] W fun r w' => ∃ a c, r = .returned (.tuple #[.slice a P.length c, .int .i64 0, .int .i64 ((s.size : Int) + 4)]) ∧ SPiece W.heap.size w'.heap.size w' (.slice a P.length c) P.length PE ∧ Below W.heap.size W w') := fun h1 h2 W hW => by
    have hl := padT_lexV s h1 (hcc ▸ h2)
    have hz := padT_size s
    rw [hPE, hP]
    have hq := lex_impl cut95 pre95 atoiD (padT s) (by omega) (HER.out.on hW) (HTY.out.on hW)
    rw [hl] at hq
    refine Calls.mono hq ?_
    rintro r w' ⟨v, rfl, hn, hb⟩
    have hp := hn.piece
    obtain ⟨a, c, rfl⟩ := hp.slice
    exact ⟨a, c, rfl, hp, hb⟩
  have LP : Hid (P.length ≤ 1048576) := by
    show _ ≤ _
    rw [hP]
    have := lexV_len s
    omega
  have LB : Hid (cc ≠ 0 → P.length = 0) := fun h => by
    rw [hP, lexV_bad s (by rw [← hcc]; exact h)]
    rfl
  clear hP hPE hcc hpl HER HTY
  generalize P.length = pn at *
  have c1 : (cc != cc) = false := by simp
  have c2 : (pl != pl) = false := by simp
  go_wp2_with fail
  refine (IM.out _ HT1.out).mono ?_
  rintro r w2 ⟨a2, k2, rfl, hN, hb⟩
  have HT2 : Hid (Below w.heap.size w w2) := bTrans HT1.out hb
  have N2 : Hid (SPiece w1.heap.size w2.heap.size w2 (.slice a2 pn k2) pn PE) := hN
  clear hN hb
  go_wp2_with fail
  refine (SP.out _).mono ?_
  rintro r w3 ⟨v3, rfl, hb⟩
  have HT3 : Hid (Below w.heap.size w w3) := bTrans HT2.out hb
  have N3 : Hid (SPiece w1.heap.size w2.heap.size w3 (.slice a2 pn k2) pn PE) := N2.out.keep hb
  clear hb N2
  by_cases hc : cc = 0
  · subst hc
    by_cases hz : (s.size : Int) > 296
    · go_wp2
      go_ret
      exact ⟨rfl, HT3.out⟩
    · have IQ : Hid (∀ W : World, Below w.heap.size w W → Calls Tryd.prog 18 #[.string (⟨#[32, 32]⟩ ++ s ++ ⟨#[32, 32]⟩)] W fun r w' => ∃ a c, r = .returned (.tuple #[.slice a pn c, .int .i64 0, .int .i64 ((s.size : Int) + 4)]) ∧ SPiece W.heap.size w'.heap.size w' (.slice a pn c) pn PE ∧ Below W.heap.size W w') := IP.out (by omega) rfl
      clear IP
      have hsz : (s.size : Int) ≤ 296 := by omega
      have d1 : ¬ 9223372036854775807 < (⟨#[32, 32]⟩ : ByteArray).size + s.size := by
        have e1 : (⟨#[32, 32]⟩ : ByteArray).size = 2 := rfl
        omega
      go_wp2_with fail
      refine (IQ.out _ HT3.out).mono ?_
      rintro r w4 ⟨a4, k4, rfl, hN, hb⟩
      have HT4 : Hid (Below w.heap.size w w4) := bTrans HT3.out hb
      have N4 : Hid (SPiece w1.heap.size w2.heap.size w4 (.slice a2 pn k2) pn PE) := N3.out.keep hb
      have M4 : Hid (SPiece w3.heap.size w4.heap.size w4 (.slice a4 pn k4) pn PE) := hN
      clear hN hb N3
      go_wp2_with fail
      refine (sameTokens_same N4.out.ssA M4.out.ssA LP.out).mono ?_
      rintro r w5 ⟨rfl, hb⟩
      have HT5 : Hid (Below w.heap.size w w5) := bTrans HT4.out hb
      clear hb
      go_wp2
      go_ret
      exact ⟨rfl, HT5.out⟩
  · have hz : pn = 0 := LB.out hc
    subst hz
    go_wp2
    go_ret
    exact ⟨rfl, HT3.out⟩

set_option maxRecDepth 100000 in
/-- From the row's condition to the table that the walk wants: one variable less. -/
theorem laidMet_tail {x : String × DataW Unit} {r : List (String × DataW Unit)} {W : World} (h : laidMet Tryd.prog (x :: r) W) : laidMet Tryd.prog r W := by
  obtain ⟨n, d⟩ := x
  obtain ⟨ps, ⟨g, t, cs, fuel, p, q, _, _, _, _, h5, rfl⟩, hn, hr⟩ := h
  exact ⟨q, h5, (List.nodup_append.1 hn).2.1, fun b off hb => hr b off (List.mem_append_right _ hb)⟩
set_option maxRecDepth 100000 in
theorem er_name : Tryd.prog.globalNamed "strconv.ErrRange" = some 4 := by kernel_rfl
theorem er_type : (Tryd.prog.globals[4]?).map (·.type) = some 74 := by kernel_rfl
theorem et_name : Tryd.prog.globalNamed "errors.errorType" = some 0 := by kernel_rfl
theorem rt_type : (Tryd.prog.cutTypes.find? (·.1 == "internal/reflectlite.rtype")).map (·.2) = some 142 := by kernel_rfl
theorem one_row : ((List.range 228).filter fun t => Tryd.prog.rowNamed t [101, 114, 114, 111, 114]) = [74] := by kernel_rfl
theorem n_types : Tryd.prog.types.size = 228 := by kernel_rfl
set_option maxRecDepth 100000 in
theorem tab_laid {W : World} (h : laidMetH Tryd.prog Rows.fnSpacesRow.laid W) : ErrW W ∧ TypW W := by
  have h' : laidMet Tryd.prog [("math/bits.deBruijn32tab", Rows.laid_math_bits_deBruijn32tab), ("math/bits.deBruijn64tab", Rows.laid_math_bits_deBruijn64tab), ("internal/strconv.uint64pow10", Rows.laid_internal_strconv_uint64pow10), ("strconv.ErrRange", Rows.laid_strconv_ErrRange), ("strconv.ErrSyntax", Rows.laid_strconv_ErrSyntax)] W ∧ handlesMet Tryd.prog [("errors.errorType", Rows.laid_errors_errorType)] W := h
  obtain ⟨hd, hh⟩ := h'
  refine ⟨?_, ?_⟩
  · have h2 := laidMet_tail (laidMet_tail (laidMet_tail hd))
    obtain ⟨ps, ⟨g, t, cs, fuel, p, q, e1, e2, e3, e4, _, rfl⟩, _, _⟩ := h2
    obtain rfl := Option.some.inj (er_name.symm.trans e1)
    obtain rfl := Option.some.inj (er_type.symm.trans e2)
    obtain ⟨_, u, v, hcs, _, _⟩ := iface_of_trod Tryd.underlying74 e4
    have hc := World.var?_cell er_name e3 0
    rw [Array.eq_one_of_toList hcs] at hc
    exact ⟨.iface u v, by simpa using hc, .inr ⟨u, v, rfl⟩⟩
  · obtain ⟨name, u, ty, e1, e2, e3, e4, e5⟩ := hh _ (List.mem_singleton.2 rfl)
    have en : name = [101, 114, 114, 111, 114] := (Option.some.inj e1).symm
    subst en
    obtain rfl := Option.some.inj (rt_type.symm.trans e2)
    have hm : ty ∈ (List.range 228).filter fun t => Tryd.prog.rowNamed t [101, 114, 114, 111, 114] := List.mem_filter.2 ⟨List.mem_range.2 (by rw [← n_types]; exact e3), e4⟩
    rw [one_row] at hm
    obtain rfl := List.mem_singleton.1 hm
    have hz : typeHandle Tryd.prog 74 = .pointer (some ⟨7, 74, none⟩) := by kernel_rfl
    rw [hz] at e5
    have hc := World.var?_cell et_name e5 0
    exact (by simpa [TypW] using hc)
/-- A world that meets the condition: the settled one, the tables laid. -/
noncomputable def laidWorld (os : Os) : World :=
  let N := (World.settled Tryd.prog os).heap.size
  let w0 := World.holding Tryd.prog os ⟨#[.cells #[.string ⟨#[118, 97, 108, 117, 101, 32, 111, 117, 116, 32, 111, 102, 32, 114, 97, 110, 103, 101]⟩] 199, .cells #[.string ⟨#[105, 110, 118, 97, 108, 105, 100, 32, 115, 121, 110, 116, 97, 120]⟩] 199], #[], []⟩
  { w0 with heap := ((((((w0.heap.modify 5 fun | .cells _ t frozen => .cells #[.int .u8 0, .int .u8 1, .int .u8 28, .int .u8 2, .int .u8 29, .int .u8 14, .int .u8 24, .int .u8 3, .int .u8 30, .int .u8 22, .int .u8 20, .int .u8 15, .int .u8 25, .int .u8 17, .int .u8 4, .int .u8 8, .int .u8 31, .int .u8 27, .int .u8 13, .int .u8 23, .int .u8 21, .int .u8 19, .int .u8 16, .int .u8 7, .int .u8 26, .int .u8 12, .int .u8 18, .int .u8 6, .int .u8 11, .int .u8 5, .int .u8 10, .int .u8 9] t frozen | o => o).modify 6 fun | .cells _ t frozen => .cells #[.int .u8 0, .int .u8 1, .int .u8 56, .int .u8 2, .int .u8 57, .int .u8 49, .int .u8 28, .int .u8 3, .int .u8 61, .int .u8 58, .int .u8 42, .int .u8 50, .int .u8 38, .int .u8 29, .int .u8 17, .int .u8 4, .int .u8 62, .int .u8 47, .int .u8 59, .int .u8 36, .int .u8 45, .int .u8 43, .int .u8 51, .int .u8 22, .int .u8 53, .int .u8 39, .int .u8 33, .int .u8 30, .int .u8 24, .int .u8 18, .int .u8 12, .int .u8 5, .int .u8 63, .int .u8 55, .int .u8 48, .int .u8 27, .int .u8 60, .int .u8 41, .int .u8 37, .int .u8 16, .int .u8 46, .int .u8 35, .int .u8 44, .int .u8 21, .int .u8 52, .int .u8 32, .int .u8 23, .int .u8 11, .int .u8 54, .int .u8 26, .int .u8 40, .int .u8 15, .int .u8 34, .int .u8 20, .int .u8 31, .int .u8 10, .int .u8 25, .int .u8 14, .int .u8 19, .int .u8 9, .int .u8 13, .int .u8 8, .int .u8 7, .int .u8 6] t frozen | o => o).modify 2 fun | .cells _ t frozen => .cells #[.int .u64 1, .int .u64 10, .int .u64 100, .int .u64 1000, .int .u64 10000, .int .u64 100000, .int .u64 1000000, .int .u64 10000000, .int .u64 100000000, .int .u64 1000000000, .int .u64 10000000000, .int .u64 100000000000, .int .u64 1000000000000, .int .u64 10000000000000, .int .u64 100000000000000, .int .u64 1000000000000000, .int .u64 10000000000000000, .int .u64 100000000000000000, .int .u64 1000000000000000000, .int .u64 10000000000000000000] t frozen | o => o).modify 0 fun | .cells _ t frozen => .cells #[.iface 142 (.agg #[.pointer (some ⟨7, 74, none⟩)])] t frozen | o => o).modify 4 fun | .cells _ t frozen => .cells #[.iface 197 (.pointer (some ⟨N, 0, none⟩))] t frozen | o => o).modify 3 fun | .cells _ t frozen => .cells #[.iface 197 (.pointer (some ⟨N + 1, 0, none⟩))] t frozen | o => o) }
theorem laid_met (os : Os) (args : Array Value) : laidMetH Tryd.prog Rows.fnSpacesRow.laid ((laidWorld os).forCall (fun _ _ => 0) ⟨#[], args, []⟩).memory :=
  laidMetH_of_parts (show laidMet Tryd.prog [("math/bits.deBruijn32tab", Rows.laid_math_bits_deBruijn32tab), ("math/bits.deBruijn64tab", Rows.laid_math_bits_deBruijn64tab), ("internal/strconv.uint64pow10", Rows.laid_internal_strconv_uint64pow10), ("strconv.ErrRange", Rows.laid_strconv_ErrRange), ("strconv.ErrSyntax", Rows.laid_strconv_ErrSyntax)] _ from (LaidIn.of_run [5, 6, 2, 4, 3, (World.settled Tryd.prog os).heap.size, (World.settled Tryd.prog os).heap.size + 1] 8 (by kernel_rfl) (by kernel_rfl) (by kernel_rfl) (by kernel_rfl)).met) (by kernel_rfl)
set_option maxRecDepth 100000 in
theorem lifted (os : Os) (started : os.Started) (H : Type) (enc : TypeId × Value → H) :
    ReturnsInHanded {} Tryd.checked os 7 .any (fun w args => (Rows.fnSpacesSpec.pre enc Tryd.prog Tryd.f7 Rows.fnSpacesRow.domain false w args ∧ laidMetH Tryd.prog Rows.fnSpacesRow.laid w) ∧ sizedMet enc Tryd.prog Tryd.f7 (OpenSpec.ofChange Rows.fnSpacesSpec) false w args) (Rows.fnSpacesSpec.post enc Tryd.prog Tryd.f7 false true false false) := by
  refine returnsInHanded_of_change_and (C := Tryd.checked) (X := fun w _ => laidMetH Tryd.prog Rows.fnSpacesRow.laid w) (fun _ _ _ hh h => h.of_heap hh) own started (by kernel_rfl) Tryd.func7
    (by
      have hok : Input.okWideB Tryd.checked.prog ((laidWorld os).forCall (fun _ _ => 0) ⟨#[], #[.slice none 0 0], []⟩) 7 ⟨#[], #[.slice none 0 0], []⟩ = true := by kernel_rfl
      exact ⟨laidWorld os, fun _ _ => 0, ⟨#[], #[.slice none 0 0], []⟩, rfl, World.shaped_of_RefB (by kernel_rfl) (by kernel_rfl), (Input.okWide_of_okWideB (base := 0) hok).1, (Input.okWide_of_okWideB hok).2, ⟨⟨ChangeSpec.pre_of_preB (fuel := 8) (by kernel_rfl), laid_met os _⟩, sizedMet_of_sizedB (fuel := 8) (by kernel_rfl)⟩, by simp only [Assume.holds]; exact ⟨by simp, by simp, fun _ => Modest.zero, by simp, by simp⟩⟩) ?_
  intro W base args ds gs before hval0 hW hcnd _ hL _
  have htb := tab_laid hL
  have hval : ∀ (j : Nat) t v, Tryd.f7.params[j]? = some t → args[j]? = some v → Value.okWide Tryd.prog W .any base t v := hval0
  have hW' := hW
  obtain ⟨p, q, hA0, hV, rfl, hfz, hnd⟩ := hW
  have hA : DataW.TrodAll enc Tryd.prog W 0 (fun _ => true) true Tryd.f7.params.toList args.toList ds p := hA0
  rw [Tryd.params7] at hA hval
  obtain ⟨v0, vs0, e0, es0, p0, q0, hargs, rfl, rfl, h0, r0⟩ := trodAll_cons hA
  obtain ⟨rfl, rfl, rfl⟩ := trodAll_nil r0
  obtain rfl : args = #[v0] := by cases args; simp_all
  obtain ⟨rfl, rfl⟩ := trodVars_none hV
  have k0 := h0
  have lt0 : ∀ x ∈ p0, x.block < W.heap.size := by obtain ⟨m, hm⟩ := k0; exact DataW.trod_lt m _ _ _ hm
  obtain ⟨a0, len0, cap0, rfl⟩ := okWide_slice Tryd.underlying31 (hval 0 31 v0 rfl rfl)
  obtain ⟨z0, w0⟩ : ∃ zs, IsRow .u8 W a0 len0 cap0 zs := by
    obtain ⟨fuel, hf⟩ := h0
    rcases open_ints Tryd.underlying31 Tryd.underlying5 (by kernel_rfl) hf with ⟨hcs, _⟩ | ⟨x, l, c, zs, hcs, _, hl, hm, hz, _, hcell, hwz⟩
    · simp [Value.cells] at hcs
      obtain ⟨rfl, rfl, rfl⟩ := hcs
      exact ⟨[], .inl ⟨rfl, rfl, rfl, rfl⟩⟩
    · simp [Value.cells] at hcs
      obtain ⟨rfl, rfl, rfl⟩ := hcs
      exact ⟨zs, .inr ⟨_, rfl, hl, hm, by simpa using hz, hcell, hwz⟩⟩
  clear hA0 hval0
  refine (walk a0 len0 cap0 z0 W htb w0).mono fun e W' ⟨he, bel⟩ => ?_
  subst he
  exact ⟨_, rfl, _, _, _, [], _, [], hW', trodAll_mk1 (shut_bool Tryd.underlying4 _), (trodAll_cons_mk (Below.trod laidOut (by kernel_rfl) (of_decide_eq_true (by kernel_rfl)) k0 bel lt0) trodAll_mk0), rfl, bel.frame _, fun h => by cases h⟩

theorem over : Rows.fnSpacesRow.holds Tryd.pinned (OpenSpec.ofChange Rows.fnSpacesSpec) :=
  OpenClaim.holds_of_wide 7 Tryd.f7 rfl rfl rfl rfl rfl rfl rfl ⟨rfl, rfl, rfl, rfl, rfl⟩ rfl rfl rfl rfl rfl (by kernel_rfl) Tryd.func7 (by kernel_rfl)
    (of_decide_eq_true (by kernel_rfl)) (by unfold Func.isWrapper; first | (rw [if_pos (by decide +kernel)]; kernel_rfl) | (rw [if_neg (by decide +kernel)]; exact ⟨rfl, rfl⟩))
    (fun os started H enc _ => lifted os started H enc)

/-- The tied card. -/
theorem proved : Rows.FnSpacesCardSaid :=
  Claim7.holds_tied_plain_at .later [] [.data, .data, .data, .handle, .sentinel, .sentinel] true (true, "e0d43b49639fadf0174f43a0310a09b668d7ea07179f084392e28d7dbac78fdf") true
    over (fun _ h => by cases h) (by kernel_rfl) (fun _ h => by cases h) fnSpaces_row_tie rfl ⟨rfl, rfl⟩ (by kernel_rfl) rfl
    (fun f fn hf hfn => by
      obtain rfl : f = 7 := Option.some.inj ((show Tryd.prog.funcNamed "loop.example/g00182/laws.FnSpaces" = some 7 by kernel_rfl).symm.trans hf) |>.symm
      obtain rfl : fn = Tryd.f7 := (Option.some.inj (Tryd.func7.symm.trans hfn)).symm
      exact ⟨by kernel_rfl, fun j t ht => by
        rw [Tryd.params7] at ht
        have hm : t ∈ [31] := List.mem_of_getElem? (by simpa using ht)
        simp only [List.mem_cons, List.not_mem_nil, or_false] at hm
        have hz : ∀ x ∈ [31], Tryd.prog.wantsStandIn x = false := by
          intro x hx
          simp only [List.mem_cons, List.not_mem_nil, or_false] at hx
          first
            | (subst hx; kernel_rfl)
            | (rcases hx with rfl | rfl <;> kernel_rfl)
            | (rcases hx with rfl | rfl | rfl <;> kernel_rfl)
        exact hz t (by simpa using hm)⟩)
    (by kernel_rfl)
end Go.Proofs.YtcaidhmolnnikaaDoor.fnSpaces
namespace Go.Proofs.YtcaidhmolnnikaaDoor
theorem fnSpaces_holds : Rows.FnSpacesCardSaid := fnSpaces.proved
#print axioms fnSpaces_holds
end Go.Proofs.YtcaidhmolnnikaaDoor
