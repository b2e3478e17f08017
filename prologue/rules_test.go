package prologue_test

import (
	"go/ast"
	"go/parser"
	"go/token"
	"maps"
	"path/filepath"
	"slices"
	"strconv"
	"strings"
	"testing"
)

// sources of the program, by their folders; those that are given stay as they are.
func sources(t *testing.T, files *token.FileSet) map[string][]*ast.File {
	t.Helper()
	names, err := filepath.Glob("../*/*.go")
	if err != nil {
		t.Fatal(err)
	}
	all := map[string][]*ast.File{}
	for _, name := range names {
		folder := filepath.Base(filepath.Dir(name))
		if strings.HasSuffix(name, "_test.go") || folder == "api" || folder == "plain" {
			continue
		}
		file, err := parser.ParseFile(files, name, nil, 0)
		if err != nil {
			t.Fatal(err)
		}
		all[folder] = append(all[folder], file)
	}
	return all
}

// variables at package level.
func variables(list []*ast.File) []string {
	var names []string
	for _, file := range list {
		for _, d := range file.Decls {
			g, ok := d.(*ast.GenDecl)
			if !ok || g.Tok != token.VAR {
				continue
			}
			for _, s := range g.Specs {
				for _, n := range s.(*ast.ValueSpec).Names {
					names = append(names, n.Name)
				}
			}
		}
	}
	return names
}

// root of what is named: x of x.y[z].
func root(e ast.Expr) string {
	switch x := e.(type) {
	case *ast.Ident:
		return x.Name
	case *ast.SelectorExpr:
		return root(x.X)
	case *ast.IndexExpr:
		return root(x.X)
	case *ast.SliceExpr:
		return root(x.X)
	case *ast.StarExpr:
		return root(x.X)
	case *ast.ParenExpr:
		return root(x.X)
	}
	return ""
}

// changed: what a piece of the program assigns to, takes the address of, or calls a method of (which may do either).
func changed(n ast.Node) []ast.Expr {
	switch x := n.(type) {
	case *ast.AssignStmt:
		return x.Lhs
	case *ast.IncDecStmt:
		return []ast.Expr{x.X}
	case *ast.RangeStmt:
		return []ast.Expr{x.Key, x.Value}
	case *ast.UnaryExpr:
		if x.Op == token.AND {
			return []ast.Expr{x.X}
		}
	case *ast.CallExpr:
		if f, ok := x.Fun.(*ast.SelectorExpr); ok {
			return []ast.Expr{f.X}
		}
	}
	return nil
}

// What stands at package level stays as it is: nothing is kept from call to call, so that answers hang on the arguments alone (P2).
func TestP2NothingIsKept(t *testing.T) {
	files := token.NewFileSet()
	all := sources(t, files)
	if len(all["table"]) == 0 || len(variables(all["table"])) == 0 {
		t.Fatal("the package table, with its table of items, was not found")
	}
	for _, list := range all {
		names := variables(list)
		for _, file := range list {
			ast.Inspect(file, func(n ast.Node) bool {
				for _, e := range changed(n) {
					if e != nil && slices.Contains(names, root(e)) {
						t.Errorf("%v: %s stands at package level, and may be changed here", files.Position(n.Pos()), root(e))
					}
				}
				return true
			})
		}
	}
}

// reached: the project's packages that a package imports, and those that these import.
func reached(all map[string][]*ast.File, folder string, found map[string]int) {
	for _, file := range all[folder] {
		for _, i := range file.Imports {
			path, _ := strconv.Unquote(i.Path.Value)
			if name, ok := strings.CutPrefix(path, "prologue/"); ok && found[name] == 0 {
				found[name]++
				reached(all, name, found)
			}
		}
	}
}

// The checker shares with the lowering no more than tables, programs, layouts and frames (and what a program's check leans on: which widths there are).
func TestP14SharesNoMore(t *testing.T) {
	all := sources(t, token.NewFileSet())
	checker, lower := map[string]int{}, map[string]int{}
	reached(all, "checker", checker)
	reached(all, "lower", lower)
	if checker["lower"]+checker["order"]+lower["checker"] > 0 || lower["order"] == 0 {
		t.Errorf("the checker reaches %v, the lowering %v", slices.Sorted(maps.Keys(checker)), slices.Sorted(maps.Keys(lower)))
	}
	for name := range checker {
		if lower[name] > 0 && !slices.Contains([]string{"api", "table", "program", "memory", "layout", "frame"}, name) {
			t.Errorf("both reach %s", name)
		}
	}
}
