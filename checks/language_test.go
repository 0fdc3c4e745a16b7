// Package checks holds the program as a whole against its rules: the numbers that all layers share, and the language it keeps to.
package checks

import (
	"bytes"
	"go/ast"
	"go/format"
	"go/parser"
	"go/token"
	"io/fs"
	"os"
	"path/filepath"
	"slices"
	"strings"
	"testing"
)

const (
	root     = ".."
	longest  = 60 // lines of a function
	library  = " bytes cmp container/heap errors iter maps math math/bits slices sort strconv strings sync sync/atomic unicode unicode/utf8 "
	syncMay  = " Mutex RWMutex WaitGroup Once "
	iterNot  = " Pull Pull2 "
	reserved = " form try "
)

// calls: which packages each layer may call, by the document's map.
func calls() map[string]string {
	return map[string]string{
		"api": "", "fixed": "api", "peek": "api", "sfnt": "api peek", "metric": "api fixed peek sfnt", "cmap": "api peek",
		"path": "api fixed", "glyf": "api path peek", "type2": "api fixed peek", "gstate": "api fixed", "hint": "api fixed gstate",
		"utf": "api", "ucd": "api", "bidi": "api ucd", "runs": "api bidi ucd", "otl": "api peek", "gsub": "api otl peek",
		"gpos": "api fixed otl peek", "breaks": "api ucd", "optimal": "api", "justify": "api fixed optimal", "raster": "api path",
		"blend": "api", "lru": "api", "layout": "api peek sfnt metric cmap path glyf type2 utf ucd bidi runs otl gsub gpos breaks optimal justify",
		"render": "api gstate hint path raster blend layout", "session": "api lru layout render",
	}
}

// source is a file of the program: where it lies, and what it says.
type source struct {
	name, pack string
	text       []byte
	set        *token.FileSet
	file       *ast.File
}

// sources: the program's Go files, those of tests left out.
func sources(t *testing.T) []source {
	var out []source
	err := filepath.WalkDir(root, func(name string, d fs.DirEntry, err error) error {
		if err != nil {
			return err
		}
		if d.IsDir() && (d.Name() == ".git" || d.Name() == "sharedtests") {
			return filepath.SkipDir
		}
		if d.IsDir() || !strings.HasSuffix(name, ".go") || strings.HasSuffix(name, "_test.go") {
			return nil
		}
		text, err := os.ReadFile(name)
		if err != nil {
			return err
		}
		set := token.NewFileSet()
		file, err := parser.ParseFile(set, name, text, parser.ParseComments)
		out = append(out, source{name, filepath.Base(filepath.Dir(name)), text, set, file})
		return err
	})
	if err != nil {
		t.Fatal(err)
	}
	return out
}

// TestPackages: every layer has its package, and no other has a name that is reserved.
func TestPackages(t *testing.T) {
	var has []string
	for _, s := range sources(t) {
		has = append(has, s.pack)
		if strings.Contains(reserved, " "+s.pack+" ") || strings.HasPrefix(s.pack, "serif") {
			t.Errorf("%s: the name of its folder is reserved", s.name)
		}
	}
	for name := range calls() {
		if !slices.Contains(has, name) {
			t.Errorf("package %s is missing", name)
		}
	}
}

// TestNoOtherFiles: beside the Go files a package's folder has none.
func TestNoOtherFiles(t *testing.T) {
	for name := range calls() {
		files, err := os.ReadDir(filepath.Join(root, name))
		if err != nil {
			t.Fatal(err)
		}
		for _, f := range files {
			if f.IsDir() || !strings.HasSuffix(f.Name(), ".go") {
				t.Errorf("%s: %s is no Go file", name, f.Name())
			}
		}
	}
}

func TestImports(t *testing.T) {
	for _, s := range sources(t) {
		for _, i := range s.file.Imports {
			path := strings.Trim(i.Path.Value, "\"`")
			if i.Name != nil {
				t.Errorf("%s: %s has another name, which hides what is taken from it", s.name, path)
			}
			own, isOwn := strings.CutPrefix(path, "serif/")
			if !isOwn && !strings.Contains(library, " "+path+" ") {
				t.Errorf("%s: %s is not in the language", s.name, path)
			}
			may, isLayer := calls()[s.pack]
			if _, toLayer := calls()[own]; isOwn && isLayer && toLayer && !slices.Contains(strings.Fields(may), own) {
				t.Errorf("%s: the map doesn't let it call %s", s.name, own)
			}
		}
	}
}

// TestNames: what is taken from sync and iter is allowed, and nothing is printed.
func TestNames(t *testing.T) {
	for _, s := range sources(t) {
		ast.Inspect(s.file, func(n ast.Node) bool {
			switch x := n.(type) {
			case *ast.SelectorExpr:
				from, ok := x.X.(*ast.Ident)
				if ok && (from.Name == "sync" && !strings.Contains(syncMay, " "+x.Sel.Name+" ") || from.Name == "iter" && strings.Contains(iterNot, " "+x.Sel.Name+" ")) {
					t.Errorf("%s: %s.%s is not in the language", s.name, from.Name, x.Sel.Name)
				}
			case *ast.CallExpr:
				if f, ok := x.Fun.(*ast.Ident); ok && (f.Name == "print" || f.Name == "println") {
					t.Errorf("%s: prints", s.name)
				}
			}
			return true
		})
	}
}

func TestNoDirectives(t *testing.T) {
	for _, s := range sources(t) {
		for _, group := range s.file.Comments {
			for _, c := range group.List {
				if strings.HasPrefix(c.Text, "//go:") || strings.HasPrefix(c.Text, "// +build") || strings.HasPrefix(c.Text, "//line") {
					t.Errorf("%s: %s", s.name, c.Text)
				}
			}
		}
	}
}

func TestLayout(t *testing.T) {
	for _, s := range sources(t) {
		if nice, err := format.Source(s.text); err != nil || !bytes.Equal(nice, s.text) {
			t.Errorf("%s: not in gofmt's layout (%v)", s.name, err)
		}
		for _, d := range s.file.Decls {
			if f, ok := d.(*ast.FuncDecl); ok {
				if n := s.set.Position(f.End()).Line - s.set.Position(f.Pos()).Line + 1; n > longest {
					t.Errorf("%s: %s has %d lines", s.name, f.Name.Name, n)
				}
			}
		}
	}
}
