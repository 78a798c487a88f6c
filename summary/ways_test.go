package summary_test

import (
	"go/ast"
	"go/parser"
	"go/token"
	"slices"
	"testing"
)

// handsOn tells whether the function calls one of the functions with these names, and hands
// a closure to it.
func handsOn(f *ast.FuncDecl, names []string) bool {
	found := false
	ast.Inspect(f, func(n ast.Node) bool {
		if c, ok := n.(*ast.CallExpr); ok {
			name, ok := c.Fun.(*ast.Ident)
			found = found || ok && slices.Contains(names, name.Name) && slices.ContainsFunc(c.Args, func(x ast.Expr) bool {
				_, ok := x.(*ast.FuncLit)
				return ok
			})
		}
		return true
	})
	return found
}

// The chapter's section "Ways": many answers are gathered by a generic function, to which a
// closure is handed, by both calls whose answers are many of one each.
func TestWays(t *testing.T) {
	file, err := parser.ParseFile(token.NewFileSet(), "summary.go", nil, 0)
	if err != nil {
		t.Fatal(err)
	}
	all := map[string]*ast.FuncDecl{}
	var generic []string
	for _, d := range file.Decls {
		if f, ok := d.(*ast.FuncDecl); ok {
			all[f.Name.Name] = f
			if f.Type.TypeParams != nil {
				generic = append(generic, f.Name.Name)
			}
		}
	}
	for _, name := range []string{"Quantiles", "Histogram"} {
		if f := all[name]; f == nil || !handsOn(f, generic) {
			t.Errorf("%s hands no closure to one of the generic functions %v", name, generic)
		}
	}
}
