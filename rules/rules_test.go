// Package rules holds the program's text against the rules of its language: what no call's answer shows.
package rules

import (
	"bytes"
	"go/ast"
	"go/format"
	"go/parser"
	"go/token"
	"os"
	"path/filepath"
	"slices"
	"strconv"
	"strings"
	"testing"
)

const mostLines = 60

// library: the packages of Go's library that the program may use.
func library() []string {
	return []string{"bytes", "cmp", "container/heap", "errors", "iter", "maps", "math", "math/big", "math/bits", "slices", "sort", "strconv", "strings", "sync", "sync/atomic", "unicode", "unicode/utf8"}
}

// layers: from the lowest on; each may lean on those ahead of it.
func layers() []string {
	return []string{"api", "crc", "wire", "alu", "isa", "page", "core", "port", "timer", "ready", "plan", "valid", "sys", "part", "frame", "module", "image", "epoch", "delta", "job", "chunk", "link", "xfer", "hand", "pair", "text", "mirror", "run"}
}

// source is one file of the program.
type source struct {
	path string
	text []byte
	tree *ast.File
	set  *token.FileSet
}

// program reads every Go file of the program, its tests aside.
func program(t *testing.T) []source {
	t.Helper()
	paths, err := filepath.Glob("../*/*.go")
	if err != nil {
		t.Fatal(err)
	}
	var all []source
	for _, path := range paths {
		if strings.HasSuffix(path, "_test.go") || strings.HasPrefix(path, "../sharedtests/") {
			continue
		}
		text, err := os.ReadFile(path)
		if err != nil {
			t.Fatal(err)
		}
		set := token.NewFileSet()
		tree, err := parser.ParseFile(set, path, text, parser.ParseComments)
		if err != nil {
			t.Fatal(err)
		}
		all = append(all, source{path, text, tree, set})
	}
	if len(all) < len(layers()) {
		t.Fatalf("only %d files were found", len(all))
	}
	return all
}

func (s source) place(n ast.Node) string { return s.set.Position(n.Pos()).String() }

func TestFolders(t *testing.T) {
	for _, layer := range layers() {
		if _, err := os.Stat("../" + layer); err != nil {
			t.Errorf("a layer is missing: %v", err)
		}
		files, err := filepath.Glob("../" + layer + "/*")
		if err != nil {
			t.Fatal(err)
		}
		for _, f := range files {
			if !strings.HasSuffix(f, ".go") {
				t.Errorf("%s: a file beside the Go files", f)
			}
		}
	}
}

func TestImports(t *testing.T) {
	for _, s := range program(t) {
		own := slices.Index(layers(), s.tree.Name.Name)
		for _, i := range s.tree.Imports {
			path, err := strconv.Unquote(i.Path.Value)
			if err != nil {
				t.Fatal(err)
			}
			name, ours := strings.CutPrefix(path, "ferry/")
			if !ours && !slices.Contains(library(), path) {
				t.Errorf("%s: %s isn't of the language", s.place(i), path)
			}
			if layer := slices.Index(layers(), name); ours && own >= 0 && layer >= own {
				t.Errorf("%s: %s isn't below this layer", s.place(i), path)
			}
		}
	}
}

func TestLayout(t *testing.T) {
	for _, s := range program(t) {
		formatted, err := format.Source(s.text)
		if err != nil || !bytes.Equal(formatted, s.text) {
			t.Errorf("%s: not in gofmt's layout (%v)", s.path, err)
		}
		for _, group := range s.tree.Comments {
			for _, c := range group.List {
				if strings.HasPrefix(c.Text, "//go:") || strings.HasPrefix(c.Text, "// +build") {
					t.Errorf("%s: %s", s.place(c), c.Text)
				}
			}
		}
	}
}

func TestFunctions(t *testing.T) {
	for _, s := range program(t) {
		ast.Inspect(s.tree, func(n ast.Node) bool {
			switch x := n.(type) {
			case *ast.FuncDecl:
				if lines := s.set.Position(x.End()).Line - s.set.Position(x.Pos()).Line + 1; lines > mostLines {
					t.Errorf("%s: %s has %d lines", s.place(x), x.Name.Name, lines)
				}
				if x.Name.Name == "init" && x.Recv == nil {
					t.Errorf("%s: func init", s.place(x))
				}
			case *ast.CallExpr:
				if f, ok := x.Fun.(*ast.Ident); ok && (f.Name == "print" || f.Name == "println") {
					t.Errorf("%s: %s", s.place(x), f.Name)
				}
			}
			return true
		})
	}
}

func TestPackageLevel(t *testing.T) {
	for _, s := range program(t) {
		for _, d := range s.tree.Decls {
			g, ok := d.(*ast.GenDecl)
			if !ok || g.Tok != token.VAR {
				continue
			}
			for _, spec := range g.Specs {
				v := spec.(*ast.ValueSpec)
				if len(v.Values) != len(v.Names) {
					t.Errorf("%s: a variable without a value of its own", s.place(v))
				}
				for _, value := range v.Values {
					if !fitsPackageLevel(value) {
						t.Errorf("%s: no such variable at package level", s.place(value))
					}
				}
			}
		}
	}
}

// fitsPackageLevel: errors made by errors.New, and tables that are written out and hold no map and no function.
func fitsPackageLevel(value ast.Expr) bool {
	switch x := value.(type) {
	case *ast.CallExpr:
		f, ok := x.Fun.(*ast.SelectorExpr)
		if !ok {
			return false
		}
		from, ok := f.X.(*ast.Ident)
		return ok && from.Name == "errors" && f.Sel.Name == "New"
	case *ast.BasicLit:
		return x.Kind == token.INT || x.Kind == token.CHAR
	case *ast.CompositeLit:
		fits := true
		ast.Inspect(x, func(n ast.Node) bool {
			switch n.(type) {
			case *ast.MapType, *ast.FuncLit, *ast.CallExpr:
				fits = false
			}
			return fits
		})
		return fits
	}
	return false
}
