// Package rules tests how the program is written: that its packages keep to the language's rules, and that each layer stands on lower ones alone.
package rules

import (
	"bytes"
	"go/ast"
	"go/format"
	"go/parser"
	"go/token"
	"os"
	"path/filepath"
	"slices"
	"strconv"
	"strings"
	"testing"
)

// root is the module's folder.
const root = ".."

// maxLines is how long a function may be.
const maxLines = 60

// library lists the packages of the library that may be used.
var library = []string{
	"bytes", "cmp", "container/heap", "errors", "iter", "maps", "math", "math/bits", "slices", "sort", "strconv",
	"strings", "sync", "sync/atomic", "unicode", "unicode/utf8",
}

// layers are the packages from the lowest to the highest. (Packages long, short, lowest, span, edge, weave and surface are none of the document's, but stand where they are told.)
var layers = []string{
	"api", "limb", "whole", "long", "rat", "short", "lowest", "vec", "span", "geom", "cons", "poly", "pslg", "plan", "well", "edge", "mesh", "locate", "weave",
	"hull", "cdt", "carve", "refine", "element", "system", "ldl", "cg", "surface", "estimate", "adapt", "emit", "run",
}

// sources are the program's Go files, without tests.
func sources(t *testing.T) []string {
	t.Helper()
	files, err := filepath.Glob(filepath.Join(root, "*", "*.go"))
	if err != nil || len(files) < len(layers) {
		t.Fatalf("%d files, error %v", len(files), err)
	}
	return slices.DeleteFunc(files, func(f string) bool { return strings.HasSuffix(f, "_test.go") })
}

func TestEveryLayerStands(t *testing.T) {
	for _, layer := range layers {
		if _, err := os.Stat(filepath.Join(root, layer, layer+".go")); err != nil {
			t.Error(err)
		}
	}
}

func TestSources(t *testing.T) {
	for _, name := range sources(t) {
		text, err := os.ReadFile(name)
		if err != nil {
			t.Fatal(err)
		}
		if laid, err := format.Source(text); err != nil || !bytes.Equal(laid, text) {
			t.Errorf("%s is not in gofmt's layout", name)
		}
		if bytes.Contains(text, []byte("\n//go:")) {
			t.Errorf("%s has a //go: line", name)
		}
		places := token.NewFileSet()
		file, err := parser.ParseFile(places, name, text, 0)
		if err != nil {
			t.Fatal(err)
		}
		checkImports(t, name, file)
		checkLengths(t, name, file, places)
	}
}

// checkImports tells of imports that are neither of the library's list nor of a lower layer. (A package that is no layer may import any.)
func checkImports(t *testing.T, name string, file *ast.File) {
	own := slices.Index(layers, filepath.Base(filepath.Dir(name)))
	for _, spec := range file.Imports {
		path, _ := strconv.Unquote(spec.Path.Value)
		inner, isInner := strings.CutPrefix(path, "gusset/")
		switch {
		case !isInner && !slices.Contains(library, path):
			t.Errorf("%s imports %s", name, path)
		case isInner && own >= 0 && slices.Index(layers, inner) >= own:
			t.Errorf("%s imports %s, which is no lower layer", name, path)
		}
	}
}

// checkLengths tells of functions that are too long.
func checkLengths(t *testing.T, name string, file *ast.File, places *token.FileSet) {
	for _, d := range file.Decls {
		f, ok := d.(*ast.FuncDecl)
		if !ok {
			continue
		}
		if n := places.Position(f.End()).Line - places.Position(f.Pos()).Line + 1; n > maxLines {
			t.Errorf("%s: %s has %d lines", name, f.Name.Name, n)
		}
	}
}
