package heavy_test

import (
	"go/ast"
	"go/parser"
	"go/token"
	"slices"
	"testing"
)

// calls tells whether one of the functions with these names is called in the code.
func calls(code ast.Node, names ...string) bool {
	found := false
	ast.Inspect(code, func(n ast.Node) bool {
		if c, ok := n.(*ast.CallExpr); ok {
			name, ok := c.Fun.(*ast.Ident)
			found = found || ok && slices.Contains(names, name.Name)
		}
		return true
	})
	return found
}

// counts tells whether the function ranges over a number, a sum of a number and another one,
// and calls one of the functions with these names there.
func counts(f *ast.FuncDecl, names ...string) bool {
	found := false
	ast.Inspect(f, func(n ast.Node) bool {
		if r, ok := n.(*ast.RangeStmt); ok {
			sum, ok := r.X.(*ast.BinaryExpr)
			if !ok || sum.Op != token.ADD {
				return true
			}
			one, ok := sum.Y.(*ast.BasicLit)
			found = found || ok && one.Kind == token.INT && calls(r.Body, names...)
		}
		return true
	})
	return found
}

// gathers tells whether the function has a closure that calls itself.
func gathers(f *ast.FuncDecl) bool {
	found := false
	ast.Inspect(f, func(n ast.Node) bool {
		if a, ok := n.(*ast.AssignStmt); ok && len(a.Lhs) == 1 {
			name, named := a.Lhs[0].(*ast.Ident)
			closure, ok := a.Rhs[0].(*ast.FuncLit)
			found = found || ok && named && calls(closure.Body, name.Name)
		}
		return true
	})
	return found
}

// The chapter's section "Ways": levels are gone through by a range over their number, in
// which Heavy asks; the sums within a piece are gathered by a closure that calls itself, in a
// function that Hier calls.
func TestWays(t *testing.T) {
	file, err := parser.ParseFile(token.NewFileSet(), "heavy.go", nil, 0)
	if err != nil {
		t.Fatal(err)
	}
	all := map[string]*ast.FuncDecl{}
	var plain, gatherers []string
	for _, d := range file.Decls {
		if f, ok := d.(*ast.FuncDecl); ok {
			all[f.Name.Name] = f
			if !f.Name.IsExported() {
				plain = append(plain, f.Name.Name)
			}
			if gathers(f) {
				gatherers = append(gatherers, f.Name.Name)
			}
		}
	}
	if f := all["Heavy"]; f == nil || !counts(f, plain...) {
		t.Errorf("Heavy does not call one of %v where it ranges over a number", plain)
	}
	if f := all["Hier"]; f == nil || !calls(f, gatherers...) {
		t.Errorf("Hier calls none of %v, which have a closure that calls itself", gatherers)
	}
}
