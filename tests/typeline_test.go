package tests

import (
	"fmt"
	"slices"
	"strings"
	"testing"

	"loop.example/g00182/impl"
)

func wantTyped(t *testing.T, vars []impl.Var, text string, then []impl.Var, want string) {
	t.Helper()
	if got, said := impl.TypeLine(vars, text); !sameVars(got, then) || said != want {
		t.Errorf("TypeLine(%v, %q) = %v, %q; want %v, %q", vars, text, got, said, then, want)
	}
}

// wantSaid asks what a line tells that sets no letter.
func wantSaid(t *testing.T, vars []impl.Var, text string, want string) {
	t.Helper()
	wantTyped(t, vars, text, vars, want)
}

// wantedTyped goes by the tree, and not by code.
func wantedTyped(vars []impl.Var, text string) ([]impl.Var, string) {
	if !wantedVarsOk(vars) {
		return vars, "bad"
	}
	if len(text) == strings.Count(text, " ") {
		return vars, ""
	}
	tree, how := wantedLine(text)
	if how != impl.ErNone {
		return vars, wordsOfCodes()[how]
	}
	got := wantedEval(tree, vars, 100)
	if got.code != impl.ErNone {
		return vars, wordsOfCodes()[got.code]
	}
	if tree.Nodes[len(tree.Nodes)-1].Kind == impl.ExSet {
		return got.vars, ""
	}
	return got.vars, wantedShow(got.array)
}

func wantTypedAsModel(t *testing.T, vars []impl.Var, text string) string {
	t.Helper()
	then, want := wantedTyped(vars, text)
	wantTyped(t, vars, text, then, want)
	return want
}

func TestTypeLineShows(t *testing.T) {
	for _, vars := range [][]impl.Var{impl.VarsNew(), someVars()} {
		wantSaid(t, vars, "7", "7")
		wantSaid(t, vars, "_7", "_7")
		wantSaid(t, vars, "1 + 2", "3")
		wantSaid(t, vars, "1 - 2", "_1")
		wantSaid(t, vars, "  1   _2   3 ", "1 _2 3")
		wantSaid(t, vars, "r i 4", "3 2 1 0")
		wantSaid(t, vars, "2 2 # 1 10 _5 7", " 1 10\n_5  7")
		wantSaid(t, vars, "2 3 # i 6", "0 1 2\n3 4 5")
		wantSaid(t, vars, "3 1 # 5", "5\n5\n5")
		wantSaid(t, vars, "2 2 2 # i 10", "0 1\n2 3\n\n4 5\n6 7")
		wantSaid(t, vars, "2 1 2 # 1 20 300 4", "  1  20\n\n300   4")
		wantSaid(t, vars, "007 00", "7 0")
		wantSaid(t, vars, "_0", "0")
		wantSaid(t, vars, "1000000000000 _1000000000000", "1000000000000 _1000000000000")
	}
	wantSaid(t, someVars(), "A", "5")
	wantSaid(t, someVars(), "B", "1 2 3")
	wantSaid(t, someVars(), "C", "1 2\n3 4")
	wantSaid(t, someVars(), "Z", "_1000000000000")
	wantSaid(t, someVars(), "B + A", "6 7 8")
}

// What the last instruction is tells whether a line shows what it comes to, and
// not whether there is a setting somewhere in it.
func TestTypeLineSets(t *testing.T) {
	none, some := impl.VarsNew(), someVars()
	wantTyped(t, none, "A : 5", varsWith("A", scalar(5)), "")
	wantTyped(t, none, "A:i 3", varsWith("A", vector(0, 1, 2)), "")
	wantTyped(t, none, "(A:5)", varsWith("A", scalar(5)), "")
	wantTyped(t, none, "((A:5))", varsWith("A", scalar(5)), "")
	wantTyped(t, none, "A : B : 1 2", varsWith("AB", vector(1, 2), vector(1, 2)), "")
	wantTyped(t, none, "1 + A : 5", varsWith("A", scalar(5)), "6")
	wantTyped(t, none, "+ A : 5", varsWith("A", scalar(5)), "5")
	wantTyped(t, none, ", A : 5", varsWith("A", scalar(5)), "5")
	wantTyped(t, none, "( A : 5 ) + 1", varsWith("A", scalar(5)), "6")
	wantTyped(t, none, "( A : 5 ) + B : 2", varsWith("AB", scalar(5), scalar(2)), "7")
	wantTyped(t, none, "C : 1 + A : 5", varsWith("AC", scalar(5), scalar(6)), "")
	wantTyped(t, none, "A : i 0", varsWith("A", vector()), "")
	wantTyped(t, some, "A : A + 1", setIn(some, "A", scalar(6)), "")
	wantTyped(t, some, "A , A : 7", setIn(some, "A", scalar(7)), "7 7")
	wantTyped(t, some, "E : C", setIn(some, "E", inShape([]int{2, 2}, 1, 2, 3, 4)), "")
	for letter := byte('A'); letter <= 'Z'; letter++ {
		name := string(rune(letter))
		wantTyped(t, none, name+" : 3 4", varsWith(name, vector(3, 4)), "")
		wantTyped(t, some, name+" : 3 4", setIn(some, name, vector(3, 4)), "")
		wantSaid(t, varsWith(name, vector(8, 9)), name, "8 9")
		wantSaid(t, none, name, "value")
	}
}

// With a code the letters are as they were, whatever was set ahead of it.
func TestTypeLineCodes(t *testing.T) {
	for _, vars := range [][]impl.Var{impl.VarsNew(), someVars(), varsWith("ABQ", vector(), scalar(1), vector(2, 2))} {
		for _, c := range [][2]string{
			{"1 % 0", "domain"}, {"~ 2", "domain"}, {"i _1", "domain"}, {"1 2 + 1 2 3", "length"}, {"i 1 2", "length"}, {"g 3", "rank"}, {"1 2 + 2 2 # 3", "rank"}, {"2 @ 5 6", "index"}, {"_3 @ 5 6", "index"},
			{"1000000000000 + 1", "limit"}, {"i 301", "limit"}, {"1000000000001", "limit"}, {"X", "value"}, {"1 + X", "value"}, {"A : X", "value"}, {"1 +", "syntax"}, {"x", "syntax"}, {"( 1", "syntax"}, {"_", "syntax"},
			{"( 1 % 0 ) , A : B : 4", "domain"}, {"X , A : B : 4", "value"}, {"( C : X ) , A : 4", "value"}, {"( 5 @ D : 1 2 ) , E : 3", "index"}, {"F : _1 # G : 4", "domain"}, {"( g 1 ) , A : 9", "rank"},
			{"( 1 2 + 1 2 3 ) , A : 9", "length"}, {"( i 301 ) , A : 9", "limit"}, {"A : 4 )", "syntax"}, {"A : 4 x", "syntax"}, {"A : 1000000000001", "limit"},
		} {
			wantSaid(t, vars, c[0], c[1])
		}
	}
}

// What goes wrong first is told: reading goes ahead of running, and what is on
// the right ahead of what is on the left.
func TestTypeLineWhichCodeIsFirst(t *testing.T) {
	some := someVars()
	wantSaid(t, some, "( 1 % 0 ) x", "syntax")
	wantSaid(t, some, "1000000000001 + 1 % 0", "limit")
	wantSaid(t, some, "( 1 % 0 ) + X", "value")
	wantSaid(t, some, "X + 1 % 0", "domain")
	wantSaid(t, some, "( 1 2 + 1 2 3 ) + 1 % 0", "domain")
	wantSaid(t, some, "( 1 % 0 ) + 1 2 + 1 2 3", "length")
	wantSaid(t, some, strings.Repeat("-", 60)+"X", "limit")
	wantSaid(t, some, strings.Repeat("-", 60)+"X)", "syntax")
	wantSaid(t, some, "x"+strings.Repeat(" ", 300), "limit")
}

// Blanks alone tell nothing, however many; no other byte is a blank.
func TestTypeLineBlanks(t *testing.T) {
	for _, vars := range varsToTry() {
		for _, long := range []int{0, 1, 2, 3, 299, 300, 301, 302, 8000, 8001, 100000} {
			wantSaid(t, vars, strings.Repeat(" ", long), "")
		}
		for x := range 256 {
			if x == ' ' {
				continue
			}
			for _, text := range []string{string([]byte{byte(x)}), " " + string([]byte{byte(x)}), string([]byte{byte(x), ' '}), "  " + string([]byte{byte(x)}) + "  "} {
				wantTypedAsModel(t, vars, text)
			}
		}
		for _, text := range []string{"\t", "\n", "\r", "\x00", "\v", "\f", "\u00a0", "\u0085", "\u2003", "\u3000", " \t ", " \n ", " \r"} {
			wantSaid(t, vars, text, "syntax")
		}
		wantSaid(t, vars, strings.Repeat(" ", 300)+"\t", "limit")
	}
}

// What has no number shows nothing, but for the bytes 10 between its lines.
func TestTypeLineWithoutNumbers(t *testing.T) {
	some := someVars()
	for _, c := range [][2]string{{"i 0", ""}, {"D", ""}, {"0 # 5", ""}, {"0 0 # 5", ""}, {"0 3 # 5", ""}, {"1 0 # 5", ""}, {"2 0 # 5", "\n"}, {"3 0 # 5", "\n\n"}, {"0 2 2 # 5", ""}, {"1 0 2 # 5", ""}, {"2 0 2 # 5", "\n\n"}, {"1 2 0 # 5", "\n"}} {
		wantSaid(t, some, c[0], c[1])
		wantTypedAsModel(t, some, c[0])
	}
}

func TestTypeLineAtTheLimits(t *testing.T) {
	some := someVars()
	wantSaid(t, some, strings.Repeat(" ", 299)+"7", "7")
	wantSaid(t, some, strings.Repeat(" ", 300)+"7", "limit")
	wantSaid(t, some, "7"+strings.Repeat(" ", 300), "limit")
	wantSaid(t, some, strings.Repeat("7 ", 150), strings.TrimSpace(strings.Repeat("7 ", 150)))
	wantSaid(t, some, strings.Repeat("7 ", 150)+"7", "limit")
	wantTyped(t, some, "E : 7"+strings.Repeat(" 7", 147), setIn(some, "E", repeated([]int{148}, []int{7}, 0)), "")
	wantSaid(t, some, strings.Repeat("-", 59)+"1", "_1")
	wantSaid(t, some, strings.Repeat("-", 60)+"1", "limit")
	wantTyped(t, some, strings.Repeat("E:", 59)+"1", setIn(some, "E", scalar(1)), "")
	wantSaid(t, some, strings.Repeat("E:", 60)+"1", "limit")
	wantSaid(t, some, "i 300", strings.Trim(fmt.Sprint(numbersUpTo(300)), "[]"))
	wantSaid(t, some, "i 301", "limit")
}

func numbersUpTo(count int) []int {
	var list []int
	for x := range count {
		list = append(list, x)
	}
	return list
}

// MaxSteps are more than any line takes: the longest ones still come to
// something, and none ever tells of steps or of room.
func TestTypeLineOfTheMostSteps(t *testing.T) {
	vars := slices.Repeat([]impl.Var{{Set: true, Value: scalar(3)}}, 26)
	if impl.MaxNodes > impl.MaxSteps {
		t.Error("a line may take more steps than it has")
	}
	for _, line := range linesOfNodes(60) {
		line = strings.ReplaceAll(line, " ", "")
		line = strings.ReplaceAll(line, "123", "1 2 3")
		if said := wantTypedAsModel(t, vars, line); len(line) <= 300 && (said == "steps" || said == "full" || said == "bad") {
			t.Errorf("%q tells %q", line, said)
		}
	}
}

// Letters that are not right are handed back as they are, and nothing else
// counts: neither blanks nor what is wrong with the line.
func TestTypeLineOfWrongLetters(t *testing.T) {
	list := wrongVarsToTry()
	for i := range 26 {
		for _, v := range []impl.Var{{Set: true}, {Value: scalar(1)}, {Value: vector()}, {Value: impl.Array{Data: []int{1}}}, {Set: true, Value: scalar(top + 1)}, {Set: true, Value: inShape([]int{2}, 1)}, {Set: true, Value: inShape([]int{1, 1, 1, 1}, 1)}} {
			vars := someVars()
			vars[i] = v
			list = append(list, vars)
		}
	}
	for _, vars := range list {
		for _, text := range []string{"", " ", "1", "A", "A : 1", "x", "1000000000001", "1 +", "1 % 0", strings.Repeat(" ", 301), strings.Repeat("1", 9000)} {
			wantTyped(t, vars, text, vars, "bad")
		}
	}
}

func TestTypeLineAsModel(t *testing.T) {
	said := map[string]int{}
	tries := varsToTry()
	for turn, text := range slices.Concat(lineTexts(2500), longTexts(200)) {
		for i := range 2 {
			want := wantTypedAsModel(t, tries[(turn+3*i)%5], text)
			if want == "" || slices.Contains(wordsOfCodes(), want) {
				said[want]++
			} else {
				said["shown"]++
			}
		}
	}
	if said["shown"] < 300 || said[""] < 50 || said["value"] < 50 || said["syntax"] < 100 || said["limit"] < 50 || len(said) < 8 {
		t.Error("the test itself hardly has lines of each kind:", said)
	}
	if said["ok"]+said["bad"]+said["steps"]+said["full"] > 0 {
		t.Error("what no line tells is told:", said)
	}
}

// Promise 17: a shown row of two or more is a line that comes to itself, and so
// does one row of an array of a higher rank, but for the blanks ahead of its
// numbers.
func TestShownRowTypedAgain(t *testing.T) {
	none := impl.VarsNew()
	lists := [][]int{{0, 0}, {top, -top}, {1, -2}, {-1, -1, -1}, slices.Repeat([]int{7}, 150), slices.Repeat([]int{-7}, 100), slices.Repeat([]int{top}, 21)}
	draw := drawing(171)
	for range 500 {
		list := make([]int, 2+draw(30))
		for i := range list {
			list[i] = (draw(1<<20) - 1<<19) % (1 + draw(100000))
		}
		lists = append(lists, list)
	}
	for _, list := range lists {
		text := impl.ShowRow(list)
		if len(text) > 300 {
			continue
		}
		wantSaid(t, none, text, text)
		if len(text) <= 296 {
			wantTyped(t, none, "A : "+text, varsWith("A", vector(list...)), "")
		}
	}
	for _, a := range arraysToShow() {
		if len(a.Shape) < 2 || a.Shape[len(a.Shape)-1] < 2 {
			continue
		}
		for _, line := range strings.Split(impl.Show(a), "\n") {
			if len(line) <= 300 && line != "" {
				wantSaid(t, none, line, strings.Join(strings.Fields(line), " "))
			}
		}
	}
}
