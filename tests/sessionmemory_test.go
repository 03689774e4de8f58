package tests

import (
	"runtime"
	"slices"
	"strings"
	"sync"
	"testing"
	"time"

	"loop.example/g00182/impl"
)

// typedOf is what TypeLine answers, as an outcome without an array.
func typedOf(vars []impl.Var, text string) (outcome, string) {
	then, said := impl.TypeLine(vars, text)
	return outcome{vars: then}, said
}

// linesToType set letters to one array, to those of others and to what
// stood in the line, tell a code, nothing, or are none.
func linesToType() []string {
	return []string{"", " ", "1", "1 2 3", "A", "C", "A : 1 2 3", "A : B", "A : B : 4 5", "B : A : C", "E : F : G : C", "A : A", "B + A : 7", "( A : B ) , B : C", "D : A , B", "x", "1 +", "1000000000001", "Q", "1 % 0", "( 1 % 0 ) , B : 5", "E : Q"}
}

func TestTypeLineIsNewMemory(t *testing.T) {
	for turn, text := range linesToType() {
		for i, vars := range append(varsToTry(), wrongVarsToTry()...) {
			g := guardLine(impl.Tree{}, vars)
			then, want := wantedTyped(vars, text)
			answered := func() outcome {
				got, said := typedOf(g.vars, text)
				if said != want {
					t.Errorf("%q tells %q; want %q", text, said, want)
				}
				return got
			}
			if (turn+i)%2 == 0 {
				wantOutcomeApart(t, answered)
				g.check(t)
			}
			first, second := answered(), answered()
			g.check(t)
			for _, list := range listsOf(first) {
				scribble(list)
			}
			scribbleVars(first.vars)
			g.check(t)
			g.scribble()
			if !sameVars(second.vars, then) {
				t.Errorf("%q: the letters share memory with others: %v, %v", text, second.vars, then)
			}
		}
	}
}

// One list may stand in many places of what is handed in.
func TestTypeLineOfOneList(t *testing.T) {
	one, two := []int{1}, []int{2, 5}
	shared, pair := impl.Array{Shape: one, Data: one}, impl.Array{Shape: two[:1], Data: two}
	same := slices.Repeat([]impl.Var{{Set: true, Value: pair}}, 26)
	wrong := slices.Repeat([]impl.Var{{Set: true, Value: impl.Array{Shape: one, Data: two}}}, 26)
	for _, vars := range [][]impl.Var{varsWith("ABCD", shared, shared, pair, impl.Array{Shape: one[:0], Data: one}), same, wrong, wrong[:3]} {
		for _, text := range linesToType() {
			wantTypedAsModel(t, vars, text)
			wantOutcomeApart(t, func() outcome {
				got, _ := typedOf(vars, text)
				return got
			})
		}
	}
	if !slices.Equal(one, []int{1}) || !slices.Equal(two, []int{2, 5}) {
		t.Error("written into:", one, two)
	}
}

func TestLineCodeIsNewMemory(t *testing.T) {
	for _, text := range append(linesToType(), "1 2 3 + 4 5 6", "( 1 2 - 3 ) * A : 4 5 6 7 8", "1 + 2 + 3 + 4 + 5", strings.Repeat("7 ", 150)) {
		wantOwnCode(t, func() []impl.Instr {
			code, _ := impl.LineCode(text)
			return code
		})
		wantLineCodeAsModel(t, text)
	}
}

// No call leaves anything to the next one: a letter that one session set is not
// set in the next, and in any turn all tell the same.
func TestSessionKeepsNothing(t *testing.T) {
	for range 3 {
		wantSession(t, "A\nA : 5\nA", "value\n5\n", 3)
		wantSession(t, "A", "value\n", 1)
		wantSaid(t, impl.VarsNew(), "A", "value")
		wantTyped(t, impl.VarsNew(), "A : 5", varsWith("A", scalar(5)), "")
	}
	texts := sessionTexts(40)
	type answer struct {
		said  string
		lines int
	}
	var want []answer
	for _, text := range texts {
		said, lines := impl.Session(text)
		want = append(want, answer{said, lines})
	}
	for turn := range 4 {
		for i := range texts {
			j := (i*7 + turn*11) % len(texts)
			wantSession(t, texts[j], want[j].said, want[j].lines)
		}
	}
}

// When Session answers, none is left that types.
func TestSessionLeavesNoneBehind(t *testing.T) {
	before := runtime.NumGoroutine()
	for _, text := range append(sessionTexts(200), "", "\n", "x", "A", strings.Repeat("7\n", 60), strings.Repeat("7\n", 61), strings.Repeat(" ", 8001)) {
		impl.Session(text)
	}
	// One that has joined may still be on its way out.
	for range 500 {
		if runtime.NumGoroutine() <= before {
			return
		}
		time.Sleep(10 * time.Millisecond)
	}
	t.Errorf("%d are at work behind all sessions; there were %d ahead of them", runtime.NumGoroutine(), before)
}

// together calls so many times at once, and waits for all of them.
func together(calls int, call func(i int)) {
	var all sync.WaitGroup
	begin := make(chan struct{})
	for i := range calls {
		all.Go(func() {
			<-begin
			call(i)
		})
	}
	close(begin)
	all.Wait()
}

// However many calls go on at once, each text tells the same as alone: all of
// one text, and each of another.
func TestTogetherSessions(t *testing.T) {
	texts := append(sessionTexts(30), "", "A : 1\nA", "A\nA : 2", "x\n)\n1 % 0\nQ", strings.Repeat("7\n", 60), strings.Repeat("7\n", 61), strings.Repeat(" ", 8001))
	said, lines := make([]string, len(texts)), make([]int, len(texts))
	for i, text := range texts {
		said[i], lines[i] = wantedSession(text, wantedTyped)
	}
	for _, step := range []int{0, 1, 5} {
		together(120, func(i int) {
			for turn := range 4 {
				j := (i*step + turn*7) % len(texts)
				wantSession(t, texts[j], said[j], lines[j])
			}
		})
	}
}

// One list of letters and one text may be handed in to many calls at once.
func TestTogetherTypedLines(t *testing.T) {
	vars := varsToTry()
	wrong := wrongVarsToTry()
	for _, text := range linesToType() {
		together(20, func(i int) {
			wantTypedAsModel(t, vars[i%5], text)
			wantTypedAsModel(t, wrong[i%len(wrong)], text)
			wantLineCodeAsModel(t, text)
			if code := i % 11; impl.CodeText(code) != wordsOfCodes()[code] || impl.CodeText(code-11) != "bad" {
				t.Error("another word for", code)
			}
		})
	}
}
