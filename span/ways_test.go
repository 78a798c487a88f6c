package span_test

import (
	"go/ast"
	"go/parser"
	"go/token"
	"slices"
	"testing"
)

// iterator tells whether the function answers one that is ranged over.
func iterator(f *ast.FuncDecl) bool {
	if f.Type.Results == nil || len(f.Type.Results.List) != 1 {
		return false
	}
	index, ok := f.Type.Results.List[0].Type.(*ast.IndexExpr)
	if !ok {
		return false
	}
	seq, ok := index.X.(*ast.SelectorExpr)
	return ok && seq.Sel.Name == "Seq"
}

// closures tells the names by which the function calls closures of its own.
func closures(f *ast.FuncDecl) []string {
	var names []string
	ast.Inspect(f, func(n ast.Node) bool {
		if a, ok := n.(*ast.AssignStmt); ok && len(a.Lhs) == 1 {
			name, named := a.Lhs[0].(*ast.Ident)
			if _, ok := a.Rhs[0].(*ast.FuncLit); ok && named {
				names = append(names, name.Name)
			}
		}
		return true
	})
	return names
}

// calls tells whether one of the functions with these names is called in the code.
func calls(code ast.Node, names []string) bool {
	found := false
	ast.Inspect(code, func(n ast.Node) bool {
		if c, ok := n.(*ast.CallExpr); ok {
			name, ok := c.Fun.(*ast.Ident)
			found = found || ok && slices.Contains(names, name.Name)
		}
		return true
	})
	return found
}

// The chapter's section "Ways": parts are gathered by a closure from an iterator that is
// ranged over.
func TestWays(t *testing.T) {
	file, err := parser.ParseFile(token.NewFileSet(), "span.go", nil, 0)
	if err != nil {
		t.Fatal(err)
	}
	var iterators []string
	var parts *ast.FuncDecl
	for _, d := range file.Decls {
		f, ok := d.(*ast.FuncDecl)
		switch {
		case ok && iterator(f):
			iterators = append(iterators, f.Name.Name)
		case ok && f.Name.Name == "Parts":
			parts = f
		}
	}
	if parts == nil {
		t.Fatal("there is no Parts")
	}
	found := false
	ast.Inspect(parts, func(n ast.Node) bool {
		if r, ok := n.(*ast.RangeStmt); ok {
			found = found || calls(r.X, iterators) && calls(r.Body, closures(parts))
		}
		return true
	})
	if !found {
		t.Errorf("Parts does not call one of its closures %v where it ranges over one of the iterators %v", closures(parts), iterators)
	}
}
