package tests

import (
	"bytes"
	"go/ast"
	"go/format"
	"go/parser"
	"go/token"
	"os"
	"path/filepath"
	"strconv"
	"strings"
	"testing"
)

const (
	maxFunctionLines = 60
	allowedImports   = " bytes cmp container/heap errors iter maps math math/bits slices sort strconv strings sync sync/atomic unicode unicode/utf8 "
)

func checkImports(t *testing.T, path string, file *ast.File) {
	for _, i := range file.Imports {
		name, err := strconv.Unquote(i.Path.Value)
		if err != nil || !strings.Contains(allowedImports, " "+name+" ") {
			t.Errorf("%s imports %s", path, i.Path.Value)
		}
	}
}

func checkLengths(t *testing.T, fset *token.FileSet, file *ast.File) {
	for _, d := range file.Decls {
		f, ok := d.(*ast.FuncDecl)
		if !ok {
			continue
		}
		from, to := fset.Position(f.Pos()), fset.Position(f.End())
		if lines := to.Line - from.Line + 1; lines > maxFunctionLines {
			t.Errorf("%s: %s has %d lines", from, f.Name.Name, lines)
		}
	}
}

func checkLayout(t *testing.T, path string, source []byte) {
	want, err := format.Source(source)
	if err != nil || !bytes.Equal(source, want) {
		t.Errorf("%s is not in gofmt's layout (%v)", path, err)
	}
}

func TestLanguage(t *testing.T) {
	paths, err := filepath.Glob("../impl/*.go")
	if err != nil || len(paths) == 0 {
		t.Fatal("no program is here:", err)
	}
	fset := token.NewFileSet()
	for _, path := range paths {
		source, err := os.ReadFile(path)
		if err != nil {
			t.Fatal(err)
		}
		file, err := parser.ParseFile(fset, path, source, 0)
		if err != nil {
			t.Fatal(err)
		}
		checkLayout(t, path, source)
		checkImports(t, path, file)
		checkLengths(t, fset, file)
	}
}
