package tests

import (
	"slices"
	"testing"

	"loop.example/g00182/impl"
)

func fastRunOf(code []impl.Instr, vars []impl.Var, steps int, force int) outcome {
	return fastOf(code, vars, steps, force).outcome
}

// codesToFuse have spans of one array alone, of a letter beside others, behind
// a letter that is set, and none; some are not right.
func codesToFuse(t *testing.T) [][]impl.Instr {
	list := append(codesToRun(t), plainCodes(60)...)
	for _, text := range []string{"+ B", "+ + B", "0 + B", "B + 0", "B & B", "B ^ C", "+ 1 2 3", "1 2 3 + 0", "E : + B", "E : F : + B", "( E : + B ) , F : + B", "B : + B", "( + B ) , + C", "- A : + B", "( + A ) , A : + B", "+ Q", "( + Q ) , + B", "E : + 7", "+ D"} {
		list = append(list, wantedCode(lineTree(t, text).Nodes))
	}
	return append(list, spanCode(20), spanCode(21))
}

func TestFastRunIsNewMemory(t *testing.T) {
	for turn, code := range codesToFuse(t) {
		for i, vars := range append(varsToFuse(), make([]impl.Var, 25)) {
			for j, steps := range []int{60, turn % 5, -1} {
				for k, force := range []int{0, 1, allForce, -1} {
					g := guardMachine(code, impl.Machine{Vars: vars})
					want := copiedOutcome(fastRunOf(code, vars, steps, force))
					if (turn+i+j+k)%5 == 0 {
						wantOutcomeApart(t, func() outcome { return fastRunOf(g.code.code, g.line.vars, steps, force) })
						g.check(t)
					}
					wantOutcomeKept(t, g, want, func() outcome { return fastRunOf(g.code.code, g.line.vars, steps, force) })
				}
			}
		}
	}
}

func TestFuseTryIsNewMemory(t *testing.T) {
	some := 0
	for _, code := range codesToFuse(t) {
		for _, vars := range append(varsToFuse(), make([]impl.Var, 25)) {
			for _, s := range append(impl.Spans(code), impl.Span{}, impl.Span{From: -1, To: 90}) {
				g := guardMachine(code, impl.Machine{Vars: vars})
				fused := func() outcome {
					a, ok := impl.FuseTry(g.code.code, s, g.line.vars)
					if ok {
						some++
					}
					return outcome{array: a}
				}
				want := copiedOutcome(fused())
				g.check(t)
				wantListsApart(t, func() [][]int { return listsOf(fused()) })
				g.check(t)
				wantOutcomeKept(t, g, want, fused)
			}
		}
	}
	if some < 1000 {
		t.Error("the test itself hardly has spans that are done at once:", some)
	}
}

func TestSpansIsNewMemory(t *testing.T) {
	for _, code := range codesToFuse(t) {
		g := guardCode(code)
		first, second := impl.Spans(g.code), impl.Spans(g.code)
		g.check(t)
		all := first[:cap(first)]
		for i := range all {
			all[i] = impl.Span{From: 81, To: 82}
		}
		_ = append(first, impl.Span{From: 83, To: 84})
		g.check(t)
		scribbleAllCode(g.room)
		if !slices.Equal(second, wantedSpans(code)) {
			t.Errorf("an answer shares memory with another one: %v, %v", second, wantedSpans(code))
		}
	}
}

// One list may stand in many places of what is handed in.
func TestFastRunOfOneList(t *testing.T) {
	one, two := []int{1}, []int{2, 5}
	shared, pair := impl.Array{Shape: one, Data: one}, impl.Array{Shape: two[:1], Data: two}
	vars := varsWith("ABCD", shared, shared, pair, impl.Array{Shape: one[:0], Data: one})
	num, plus, join := impl.Instr{Op: impl.OpNum, Nums: two}, twoInstr(plainFun('+')), twoInstr(plainFun(','))
	code := codeOf(num, num, plus, setInstr('E'), loadInstr('C'), oneInstr(plainFun('+')), setInstr('F'), join, loadInstr('A'), loadInstr('D'), plus, join, loadInstr('A'), loadInstr('B'), plus, join)
	want := wantedFast(code, vars, 20, 0)
	if want.code != impl.ErNone || want.many != 4 {
		t.Error("the test itself does not come to the end:", want)
	}
	for _, force := range []int{0, 1, 5, allForce} {
		wantFastAsModel(t, code, vars, 20, force)
		wantOutcomeApart(t, func() outcome { return fastRunOf(code, vars, 20, force) })
		wantOutcomeApart(t, func() outcome { return fastRunOf(code, vars, 5, force) })
	}
	for _, s := range impl.Spans(code) {
		wantFusedAsModel(t, code, s, vars)
		wantListsApart(t, func() [][]int {
			a, _ := impl.FuseTry(code, s, vars)
			return [][]int{a.Shape, a.Data}
		})
	}
	if !slices.Equal(one, []int{1}) || !slices.Equal(two, []int{2, 5}) {
		t.Error("written into:", one, two)
	}
}

// No run leaves anything to the next one: in turn they come to the same as
// alone.
func TestFastRunKeepsNothing(t *testing.T) {
	codes := codesToFuse(t)
	run := func(i int) fastOutcome { return fastOf(codes[i], varsToFuse()[i%11], 60, i*7) }
	var want []fastOutcome
	for i := range codes {
		want = append(want, fastOutcome{copiedOutcome(run(i).outcome), run(i).many})
	}
	for turn := range 3 {
		for i := range codes {
			j := (i*(2*turn+1) + turn) % len(codes)
			if got := run(j); !sameOutcome(got.outcome, want[j].outcome) || got.many != want[j].many {
				t.Errorf("code %d comes to %v; it came to %v", j, got, want[j])
			}
		}
	}
}
