// Package laws tests what holds for all packages: the rules of the language that a test can see, and the numbers that package api gives.
package laws

import (
	"bytes"
	"go/ast"
	"go/format"
	"go/parser"
	"go/token"
	"os"
	"path/filepath"
	"slices"
	"strconv"
	"strings"
	"testing"
)

// layers in the document's order: each may use those ahead of it, and api.
var layers = strings.Fields("sha mac fix ring pack name frame bucket window cookie table lobby vec board car shot rule gate book grid view snap server client smooth demo referee shell")

var library = strings.Fields("bytes cmp container/heap errors iter maps math math/big math/bits slices sort strconv strings sync sync/atomic unicode unicode/utf8")

const longestFunction = 60

// sources gives the program's own files of a package, by their paths; tests are not among them.
func sources(t *testing.T, pack string) map[string][]byte {
	t.Helper()
	paths, err := filepath.Glob(filepath.Join("..", pack, "*"))
	if err != nil || len(paths) == 0 {
		t.Fatalf("package %s has no files (%v)", pack, err)
	}
	files := map[string][]byte{}
	for _, path := range paths {
		if strings.HasSuffix(path, "_test.go") {
			continue
		}
		if filepath.Ext(path) != ".go" {
			t.Errorf("%s: no Go file", path)
			continue
		}
		text, err := os.ReadFile(path)
		if err != nil {
			t.Fatal(err)
		}
		files[path] = text
	}
	return files
}

func mayImport(layer int, path string) bool {
	own, ok := strings.CutPrefix(path, "joust/")
	if !ok {
		return slices.Contains(library, path)
	}
	return own == "api" || slices.Contains(layers[:layer], own)
}

func TestLayersImportOnlyWhatTheyMay(t *testing.T) {
	for i, pack := range layers {
		for path, text := range sources(t, pack) {
			file, err := parser.ParseFile(token.NewFileSet(), path, text, parser.ImportsOnly)
			if err != nil {
				t.Fatal(err)
			}
			for _, im := range file.Imports {
				if name, _ := strconv.Unquote(im.Path.Value); !mayImport(i, name) {
					t.Errorf("%s imports %s", path, name)
				}
			}
		}
	}
}

func TestLayout(t *testing.T) {
	for _, pack := range layers {
		for path, text := range sources(t, pack) {
			laid, err := format.Source(text)
			if err != nil || !bytes.Equal(laid, text) {
				t.Errorf("%s: not gofmt's layout (%v)", path, err)
			}
			for line := range strings.Lines(string(text)) {
				if strings.HasPrefix(line, "//go:") || strings.HasPrefix(line, "// +build") {
					t.Errorf("%s: %s", path, line)
				}
			}
		}
	}
}

func TestFunctionsAreSmall(t *testing.T) {
	for _, pack := range layers {
		for path, text := range sources(t, pack) {
			set := token.NewFileSet()
			file, err := parser.ParseFile(set, path, text, 0)
			if err != nil {
				t.Fatal(err)
			}
			for _, d := range file.Decls {
				f, ok := d.(*ast.FuncDecl)
				if !ok {
					continue
				}
				if n := set.Position(f.End()).Line - set.Position(f.Pos()).Line + 1; n > longestFunction {
					t.Errorf("%s: %s has %d lines", path, f.Name.Name, n)
				}
			}
		}
	}
}
