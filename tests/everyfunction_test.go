package tests

import (
	"go/ast"
	"go/parser"
	"go/token"
	"maps"
	"math"
	"path/filepath"
	"reflect"
	"slices"
	"strings"
	"testing"

	"loop.example/g00182/impl"
)

// everyFunction has each function of each chapter by its name.
func everyFunction() map[string]any {
	return map[string]any{
		"NumOk": impl.NumOk, "One": impl.One, "Two": impl.Two, "Neutral": impl.Neutral,
		"ShapeOk": impl.ShapeOk, "SizeOf": impl.SizeOf, "PlaceOf": impl.PlaceOf, "IndexOf": impl.IndexOf, "ShapeSame": impl.ShapeSame,
		"ArrayOk": impl.ArrayOk, "ArraySame": impl.ArraySame, "ScalarOf": impl.ScalarOf, "VectorOf": impl.VectorOf, "NumAt": impl.NumAt, "Rows": impl.Rows,
		"EachOne": impl.EachOne, "Fit": impl.Fit, "EachTwo": impl.EachTwo,
		"Iota": impl.Iota, "ShapeOf": impl.ShapeOf, "Reshape": impl.Reshape, "Ravel": impl.Ravel, "Join": impl.Join, "Turn": impl.Turn, "Rotate": impl.Rotate, "Flip": impl.Flip, "Take": impl.Take, "Drop": impl.Drop,
		"Pick": impl.Pick, "Find": impl.Find, "Grade": impl.Grade, "Copy": impl.Copy, "Within": impl.Within,
		"Reduce": impl.Reduce, "Scan": impl.Scan, "Outer": impl.Outer, "Inner": impl.Inner,
		"TokenOk": impl.TokenOk, "Lex": impl.Lex, "TokenText": impl.TokenText,
		"FunOne": impl.FunOne, "FunTwo": impl.FunTwo, "TreeOk": impl.TreeOk, "Parse": impl.Parse, "TreeText": impl.TreeText,
		"VarsOk": impl.VarsOk, "VarsNew": impl.VarsNew, "DoOne": impl.DoOne, "DoTwo": impl.DoTwo, "Eval": impl.Eval,
		"CodeOk": impl.CodeOk, "Compile": impl.Compile, "CodeDeep": impl.CodeDeep, "CodePack": impl.CodePack, "CodeRead": impl.CodeRead,
		"MachineNew": impl.MachineNew, "MachineStep": impl.MachineStep, "Run": impl.Run,
		"HeapOk": impl.HeapOk, "HeapNew": impl.HeapNew, "HeapPack": impl.HeapPack, "HeapUsed": impl.HeapUsed, "HeapPut": impl.HeapPut, "HeapGet": impl.HeapGet, "HeapDrop": impl.HeapDrop,
		"HeapRun": impl.HeapRun, "RoomFor": impl.RoomFor,
		"Spans": impl.Spans, "FuseTry": impl.FuseTry, "FastRun": impl.FastRun,
		"ShowNum": impl.ShowNum, "ShowRow": impl.ShowRow, "ShowWide": impl.ShowWide, "Show": impl.Show, "ArrayPack": impl.ArrayPack, "ArrayRead": impl.ArrayRead,
		"CodeText": impl.CodeText, "LineCode": impl.LineCode, "TypeLine": impl.TypeLine, "Session": impl.Session,
	}
}

func everyName() []string { return slices.Sorted(maps.Keys(everyFunction())) }

// The functions that the program gives out are these, and their types have no
// methods beside them.
func TestEveryFunctionIsAskedFor(t *testing.T) {
	paths, _ := filepath.Glob("../impl/*.go")
	var names []string
	for _, path := range paths {
		file, err := parser.ParseFile(token.NewFileSet(), path, nil, 0)
		if err != nil {
			t.Fatal(err)
		}
		for _, d := range file.Decls {
			f, ok := d.(*ast.FuncDecl)
			if ok && f.Name.IsExported() && f.Recv == nil {
				names = append(names, f.Name.Name)
			}
		}
	}
	slices.Sort(names)
	if want := everyName(); !slices.Equal(names, want) {
		t.Errorf("the program gives out %v; asked for are %v", names, want)
	}
	for _, x := range []any{impl.Array{}, impl.Token{}, impl.Fun{}, impl.Expr{}, impl.Tree{}, impl.Var{}, impl.Instr{}, impl.Machine{}, impl.Cell{}, impl.Heap{}, impl.Span{}} {
		if n := reflect.PointerTo(reflect.TypeOf(x)).NumMethod(); n > 0 {
			t.Errorf("%T has %d methods", x, n)
		}
	}
}

// A pool has arguments of each type, right and wrong, and puts together more.
type pool struct {
	draw func(n int) int
	of   map[reflect.Type][]reflect.Value
}

func addTo[T any](p *pool, values ...T) {
	kind := reflect.TypeFor[T]()
	for _, x := range values {
		p.of[kind] = append(p.of[kind], reflect.ValueOf(x))
	}
}

func newPool(t *testing.T, seed uint32) *pool {
	p := &pool{draw: drawing(seed), of: map[reflect.Type][]reflect.Value{}}
	addTo(p, everyNumberToTry()...)
	addTo(p, "", " ", "\n", "A : 5\nA\nA + 1\n", "1 2 3", "A", "( 1", "x", "_", "\xff\xfe", strings.Repeat("7\n", 61), strings.Repeat(" ", 301), strings.Repeat("-", 60)+"1", strings.Repeat("x", 8001))
	addTo(p, append(lineTexts(60), sessionTexts(12)...)...)
	addTo(p, nil, []int{}, []int{0}, []int{300}, []int{301}, []int{-1}, []int{2, 3}, []int{1, 2}, []int{2, 3, 4}, []int{2, 3, 4, 5}, []int{0, math.MaxInt}, []int{math.MaxInt, math.MaxInt, 4}, []int{1 << 32, 1 << 32}, []int{math.MinInt, -1}, []int{top + 1, 0}, numbered(300), numbered(301), numbered(7000))
	addTo(p, nil, []byte{}, []byte{0}, []byte{255, 255, 255}, slices.Repeat([]byte{255}, 900), slices.Repeat([]byte{1}, 900), bytesOfArray(vector(1, 2)), bytesOfArray(inShape([]int{2, 1}, 5, 6)), looseBytes(1, numInstr(4, 5)), looseBytes(2, loadInstr('A'), setInstr('B')), looseBytes(9, numInstr(4)))
	addTo(p, impl.Array{}, scalar(0), scalar(-3), scalar(top+1), vector(), vector(0, 1, 1), vector(2, 0, 1), vector(-top, top), inShape([]int{2, 3}, 1, 2, 3, 4, 5, 6), inShape([]int{3, 2}, 1, 0, 0, 1, 1, 1), inShape([]int{2, 2, 2}, 1, 2, 3, 4, 5, 6, 7, 8), inShape([]int{0, 3}), inShape([]int{3, 0, 2}),
		vector(numbersUpTo(300)...), vector(numbered(301)...), inShape([]int{2}, 1), inShape([]int{-1}), inShape([]int{1, 1, 1, 1}, 1), inShape([]int{math.MaxInt, 2}, 1, 2), inShape([]int{1 << 32, 1 << 32}), inShape([]int{math.MinInt}, 4), inShape([]int{300, 301, 0}))
	addTo(p, append(append(funsOfOne(), someFunsOfTwo()...), noFuns()...)...)
	addTo(p, append(everyToken(), wrongTokens()...)...)
	addTo(p, linesForMemory(t)...)
	addTo(p, append(treesForCode(t), impl.Tree{Nodes: []impl.Expr{{Kind: impl.ExTwo, A: math.MaxInt, B: math.MinInt}}}, treeOf(numNode(1), oneNode(plainFun('-'), math.MinInt)))...)
	addTo(p, append(varsToTry(), wrongVarsToTry()...)...)
	codes := slices.Concat(codesForMemory(), wrongCodesToTry(), codesToStep(), plainCodes(40))
	addTo(p, codes...)
	for i, code := range codesToStep() {
		addTo(p, machinesAlong(code, varsToTry()[i%5], i%4)...)
	}
	addTo(p, impl.Machine{}, impl.Machine{At: math.MinInt, Steps: math.MinInt, Code: math.MaxInt}, impl.Machine{At: math.MaxInt, Stack: stackOf(inShape([]int{math.MaxInt}, 1)), Vars: someVars()}, impl.Machine{Stack: make([]impl.Array, 900)})
	addTo(p, heapsForMemory()...)
	addTo(p, impl.Heap{Top: math.MinInt, Cells: cellsOf(live(math.MaxInt, math.MaxInt))}, impl.Heap{Words: numbered(9), Top: 9, Cells: cellsOf(live(math.MaxInt, 2))}, impl.Heap{Words: numbered(9), Top: 9, Cells: cellsOf(live(1, math.MaxInt), live(-4, 6))},
		impl.Heap{Words: []int{math.MaxInt, 3, 3}, Top: 3, Cells: cellsOf(live(0, 3))}, impl.Heap{Words: []int{3, 300, 300, 300, 1}, Top: 5, Cells: cellsOf(live(0, 5))}, impl.Heap{Words: []int{-1, math.MinInt}, Top: 2, Cells: cellsOf(live(0, 2))})
	addTo(p, append(spansToTry(6), impl.Span{From: math.MinInt, To: math.MaxInt}, impl.Span{From: math.MaxInt, To: math.MinInt})...)
	return p
}

func everyNumberToTry() []int {
	list := append(wrongNumbers(), 0, 1, 2, 3, 5, 10, 25, 26, 60, 61, 100, 200, 299, 300, 301, 6000, 6001, 1<<31-1, 1<<31, 1<<32, top, -top, -1, -2, -300)
	return append(list, bytesOf(everySign)...)
}

// arguments are drawn for a function. A span that is drawn by itself is hardly
// ever one of the code beside it, so that one of these is taken now and then.
func (p *pool) arguments(t *testing.T, f reflect.Value) []reflect.Value {
	var list []reflect.Value
	for i := range f.Type().NumIn() {
		some := p.of[f.Type().In(i)]
		if len(some) == 0 {
			t.Fatal("the test itself has no arguments of", f.Type().In(i))
		}
		list = append(list, some[p.draw(len(some))])
	}
	if f.Type() == reflect.TypeOf(impl.FuseTry) && p.draw(2) == 0 {
		if spans := wantedSpans(list[0].Interface().([]impl.Instr)); len(spans) > 0 {
			list[1] = reflect.ValueOf(spans[p.draw(len(spans))])
		}
	}
	return list
}

// spared is a copy with spare room behind each list, or with none.
func spared(x reflect.Value, room int) reflect.Value {
	fresh := reflect.New(x.Type()).Elem()
	switch x.Kind() {
	case reflect.Slice:
		if x.Len() == 0 && room == 0 {
			break
		}
		list := reflect.MakeSlice(x.Type(), x.Len()+room, x.Len()+room)
		for i := range x.Len() + room {
			// The room has what stands in the list, so that it might pass for right.
			if x.Len() > 0 {
				list.Index(i).Set(spared(x.Index(i%x.Len()), room))
			}
		}
		fresh.Set(list.Slice(0, x.Len()))
	case reflect.Struct:
		for i := range x.NumField() {
			fresh.Field(i).Set(spared(x.Field(i), room))
		}
	default:
		fresh.Set(x)
	}
	return fresh
}

// sameToTheEnd holds two values against each other, with all room behind their
// lists if deep is true; an empty list and nil are alike.
func sameToTheEnd(a reflect.Value, b reflect.Value, deep bool) bool {
	switch a.Kind() {
	case reflect.Slice:
		if a.Len() != b.Len() || deep && a.Cap() != b.Cap() {
			return false
		}
		if deep {
			a, b = a.Slice(0, a.Cap()), b.Slice(0, b.Cap())
		}
		for i := range a.Len() {
			if !sameToTheEnd(a.Index(i), b.Index(i), deep) {
				return false
			}
		}
		return true
	case reflect.Struct:
		for i := range a.NumField() {
			if !sameToTheEnd(a.Field(i), b.Field(i), deep) {
				return false
			}
		}
		return true
	}
	return a.Equal(b)
}

func allSame(a []reflect.Value, b []reflect.Value, deep bool) bool {
	return slices.EqualFunc(a, b, func(x reflect.Value, y reflect.Value) bool { return sameToTheEnd(x, y, deep) })
}

// A stretch is the memory of a list, with the room behind it.
type stretch struct{ from, to uintptr }

func stretches(values []reflect.Value) []stretch {
	var list []stretch
	var walk func(x reflect.Value)
	walk = func(x reflect.Value) {
		switch x.Kind() {
		case reflect.Slice:
			if x.Cap() > 0 {
				list = append(list, stretch{x.Pointer(), x.Pointer() + uintptr(x.Cap())*x.Type().Elem().Size()})
			}
			all := x.Slice(0, x.Cap())
			for i := range all.Len() {
				walk(all.Index(i))
			}
		case reflect.Struct:
			for i := range x.NumField() {
				walk(x.Field(i))
			}
		}
	}
	for _, x := range values {
		walk(x)
	}
	return list
}

// apart tells whether no two lists share memory.
func apart(list []stretch) bool {
	slices.SortFunc(list, func(a stretch, b stretch) int {
		if a.from < b.from {
			return -1
		}
		return 1
	})
	for i := 1; i < len(list); i++ {
		if list[i].from < list[i-1].to {
			return false
		}
	}
	return true
}

func interfaces(values []reflect.Value) []any {
	var list []any
	for _, x := range values {
		list = append(list, x.Interface())
	}
	return list
}

func wordsOf(values []reflect.Value) string {
	var text strings.Builder
	for _, x := range interfaces(values) {
		text.WriteString(reflect.TypeOf(x).String() + " ")
	}
	return text.String()
}

// called is what a function answers; a panic is told, and nothing is answered
// then.
func called(t *testing.T, name string, f reflect.Value, arguments []reflect.Value) (answer []reflect.Value) {
	t.Helper()
	defer func() {
		if why := recover(); why != nil {
			t.Errorf("%s panics of %s: %v: %v", name, wordsOf(arguments), why, interfaces(arguments))
		}
	}()
	return f.Call(arguments)
}

// wantKept calls a function three times: of arguments with room behind their
// lists, of the same again, and of a copy without room.
func wantKept(t *testing.T, name string, f reflect.Value, drawn []reflect.Value) []reflect.Value {
	t.Helper()
	var arguments, was, tight []reflect.Value
	for _, x := range drawn {
		arguments, was, tight = append(arguments, spared(x, 3)), append(was, spared(x, 3)), append(tight, spared(x, 0))
	}
	first, second, third := called(t, name, f, arguments), called(t, name, f, arguments), called(t, name, f, tight)
	if !allSame(arguments, was, true) {
		t.Errorf("%s writes into its arguments: %v", name, interfaces(drawn))
	}
	if !allSame(first, second, false) || !allSame(first, third, false) {
		t.Errorf("%s answers %v, %v and %v of %v", name, interfaces(first), interfaces(second), interfaces(third), interfaces(drawn))
	}
	if !apart(stretches(slices.Concat(arguments, first, second))) {
		t.Errorf("%s: lists of its answers share memory with each other or with the arguments: %v", name, interfaces(drawn))
	}
	return first
}

// Promise 18: every function answers at any arguments, the same each time, and
// writes into none; its answer is new memory.
func TestEveryFunctionAnswersAtAnyArguments(t *testing.T) {
	p := newPool(t, 181)
	for _, name := range everyName() {
		f := reflect.ValueOf(everyFunction()[name])
		answers := map[bool]int{}
		for range 1500 {
			answer := wantKept(t, name, f, p.arguments(t, f))
			zero := true
			for _, x := range answer {
				zero = zero && (x.IsZero() || x.Kind() == reflect.Slice && x.Len() == 0)
			}
			answers[zero]++
			if t.Failed() {
				return
			}
		}
		if answers[false] < 5 {
			t.Errorf("the test itself hardly calls %s of what it answers: %v", name, answers)
		}
	}
}

// One list may be several arguments, and several parts of one.
func TestEveryFunctionOfOneList(t *testing.T) {
	p := newPool(t, 182)
	list := []int{2, 1, 2, 0, 1, 3, 1, 2}
	was := slices.Clone(list)
	one := impl.Array{Shape: list[:1], Data: list[:2]}
	shared := []any{list[:2], one, impl.Tree{Nodes: []impl.Expr{{Kind: impl.ExNum, Nums: list[:3]}}}, slices.Repeat([]impl.Var{{Set: true, Value: one}}, 26), codeOf(impl.Instr{Op: impl.OpNum, Nums: list[:3]}, impl.Instr{Op: impl.OpNum, Nums: list[1:3]}, twoInstr(plainFun(','))),
		impl.Machine{Vars: slices.Repeat([]impl.Var{{Set: true, Value: one}}, 26), Steps: 3}, impl.Heap{Words: list, Top: 8, Cells: cellsOf(live(0, 3), live(3, 2))}}
	for _, x := range shared {
		p.of[reflect.TypeOf(x)] = []reflect.Value{reflect.ValueOf(x)}
	}
	for _, name := range everyName() {
		f := reflect.ValueOf(everyFunction()[name])
		for range 60 {
			arguments := p.arguments(t, f)
			answer := called(t, name, f, arguments)
			if !slices.Equal(list, was) {
				t.Fatalf("%s writes into its arguments: %v", name, interfaces(arguments))
			}
			if !apart(append(stretches(answer), stretch{reflect.ValueOf(list).Pointer(), reflect.ValueOf(list).Pointer() + 64})) {
				t.Fatalf("%s: lists of its answer share memory with each other or with the arguments: %v", name, interfaces(arguments))
			}
		}
	}
}

// However many calls of all functions go on at once, of the same arguments, each
// answers as alone.
func TestTogetherEveryFunction(t *testing.T) {
	p := newPool(t, 183)
	type call struct {
		name      string
		f         reflect.Value
		arguments []reflect.Value
		want      []reflect.Value
	}
	var calls []call
	for _, name := range everyName() {
		f := reflect.ValueOf(everyFunction()[name])
		for range 12 {
			c := call{name: name, f: f}
			for _, x := range p.arguments(t, f) {
				c.arguments = append(c.arguments, spared(x, 3))
			}
			c.want = called(t, name, f, c.arguments)
			calls = append(calls, c)
		}
	}
	together(8, func(i int) {
		for turn := range calls {
			c := calls[(turn+i*(len(calls)/16))%len(calls)]
			if got := called(t, c.name, c.f, c.arguments); !allSame(got, c.want, false) {
				t.Errorf("%s answers %v, beside others; alone it answers %v", c.name, interfaces(got), interfaces(c.want))
			}
		}
	})
}
