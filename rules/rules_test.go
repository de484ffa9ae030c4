// Package rules: tests that hold the program's own text to the rules for writing it.
package rules

import (
	"crypto/sha256"
	"encoding/hex"
	"go/ast"
	"go/format"
	"go/parser"
	"go/token"
	"io/fs"
	"os"
	"path/filepath"
	"strings"
	"testing"
)

const root = ".."

// isForeign: folders with these names are none of the program's packages.
func isForeign(folder string) bool {
	switch folder {
	case ".git", "sharedtests", "form", "try":
		return true
	}
	return strings.HasPrefix(folder, "spill") && folder != "spill"
}

// sources: the program's own Go files, without tests and without what is laid beside it for a run of the tests.
func sources(t *testing.T) []string {
	t.Helper()
	var files []string
	err := filepath.WalkDir(root, func(path string, d fs.DirEntry, err error) error {
		if err != nil {
			return err
		}
		if d.IsDir() && isForeign(d.Name()) {
			return filepath.SkipDir
		}
		if strings.HasSuffix(path, ".go") && !strings.HasSuffix(path, "_test.go") {
			files = append(files, path)
		}
		return nil
	})
	if err != nil || len(files) < 3 {
		t.Fatalf("the program's files: %v, %v", files, err)
	}
	return files
}

// TestGivenPackage: package api stays as it was given, and alone in its folder.
func TestGivenPackage(t *testing.T) {
	entries, err := os.ReadDir(filepath.Join(root, "api"))
	if err != nil || len(entries) != 1 {
		t.Errorf("the folder api: %v, %v", entries, err)
	}
	text, err := os.ReadFile(filepath.Join(root, "api", "api.go"))
	sum := sha256.Sum256(text)
	if got := hex.EncodeToString(sum[:]); err != nil || got != "7c755c58115acbd61113ec84a6b03c99460666eeed0c4b9fd80dff181322adec" {
		t.Errorf("api.go is not the one that was given: %s, %v", got, err)
	}
}

func TestLanguage(t *testing.T) {
	for _, path := range sources(t) {
		text, err := os.ReadFile(path)
		if err != nil {
			t.Fatal(err)
		}
		if laid, err := format.Source(text); err != nil || string(laid) != string(text) {
			t.Errorf("%s: not in gofmt's layout", path)
		}
		if strings.Contains(string(text), "//go:") {
			t.Errorf("%s: a //go: line", path)
		}
		files := token.NewFileSet()
		file, err := parser.ParseFile(files, path, text, 0)
		if err != nil {
			t.Fatal(err)
		}
		for _, i := range file.Imports {
			if i.Path.Value != `"strconv"` && !strings.HasPrefix(i.Path.Value, `"spill/`) {
				t.Errorf("%s: imports %s", path, i.Path.Value)
			}
		}
		ast.Inspect(file, func(n ast.Node) bool {
			if n == nil {
				return false
			}
			if what := ruledOut(files, n); what != "" {
				t.Errorf("%s: %s", files.Position(n.Pos()), what)
			}
			return true
		})
	}
}

// ruledOut tells what is wrong with a node of the syntax tree, if anything is.
func ruledOut(files *token.FileSet, n ast.Node) string {
	switch n := n.(type) {
	case *ast.GoStmt, *ast.DeferStmt, *ast.SelectStmt, *ast.SendStmt, *ast.ChanType:
		return "a goroutine, channel or defer"
	case *ast.MapType, *ast.InterfaceType, *ast.FuncLit, *ast.TypeAssertExpr, *ast.TypeSwitchStmt:
		return "a map, interface or closure"
	case *ast.Ident:
		switch n.Name {
		case "panic", "recover", "cap", "any", "error", "float32", "float64", "complex64", "complex128", "print", "println":
			return "the name " + n.Name
		}
	case *ast.FuncType:
		if n.TypeParams != nil {
			return "a generic function"
		}
	case *ast.TypeSpec:
		if n.TypeParams != nil {
			return "a generic type"
		}
	case *ast.FuncDecl:
		if files.Position(n.End()).Line-files.Position(n.Pos()).Line >= 45 {
			return "a function that is too long"
		}
	case *ast.File:
		return looseVariable(n)
	}
	return ""
}

// looseVariable: no variable of a package but tables, which are written as arrays.
func looseVariable(file *ast.File) string {
	for _, d := range file.Decls {
		g, ok := d.(*ast.GenDecl)
		if !ok || g.Tok != token.VAR {
			continue
		}
		for _, s := range g.Specs {
			for _, v := range s.(*ast.ValueSpec).Values {
				if !isArray(v) {
					return "a package-level variable that is no table"
				}
			}
			if len(s.(*ast.ValueSpec).Values) == 0 {
				return "a package-level variable without a value"
			}
		}
	}
	return ""
}

func isArray(e ast.Expr) bool {
	l, ok := e.(*ast.CompositeLit)
	if !ok {
		return false
	}
	a, ok := l.Type.(*ast.ArrayType)
	return ok && a.Len != nil
}
