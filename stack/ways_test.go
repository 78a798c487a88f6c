package stack_test

import (
	"go/ast"
	"go/parser"
	"go/token"
	"slices"
	"testing"
)

// iterates tells whether a type is that of functions that are ranged over: written out, or
// by its name in the library.
func iterates(t ast.Expr) bool {
	switch x := t.(type) {
	case *ast.FuncType:
		return true
	case *ast.IndexExpr:
		return iterates(x.X)
	case *ast.IndexListExpr:
		return iterates(x.X)
	case *ast.SelectorExpr:
		return x.Sel.Name == "Seq" || x.Sel.Name == "Seq2"
	}
	return false
}

// ranges tells whether the function ranges over a function that it is handed.
func ranges(f *ast.FuncDecl) bool {
	var handed []string
	for _, field := range f.Type.Params.List {
		for _, name := range field.Names {
			if iterates(field.Type) {
				handed = append(handed, name.Name)
			}
		}
	}
	found := false
	ast.Inspect(f, func(n ast.Node) bool {
		if r, ok := n.(*ast.RangeStmt); ok {
			over, ok := r.X.(*ast.Ident)
			found = found || ok && slices.Contains(handed, over.Name)
		}
		return true
	})
	return found
}

// calls tells the names of the functions that the function calls.
func calls(f *ast.FuncDecl) []string {
	var all []string
	ast.Inspect(f, func(n ast.Node) bool {
		if c, ok := n.(*ast.CallExpr); ok {
			if name, ok := c.Fun.(*ast.Ident); ok {
				all = append(all, name.Name)
			}
		}
		return true
	})
	return all
}

// The chapter's section "Ways": the first error of all is looked for by a generic
// function, which goes through the levels by a range over a function, and is called by
// Update.
func TestWays(t *testing.T) {
	file, err := parser.ParseFile(token.NewFileSet(), "stack.go", nil, 0)
	if err != nil {
		t.Fatal(err)
	}
	var generic, called []string
	for _, d := range file.Decls {
		f, ok := d.(*ast.FuncDecl)
		switch {
		case ok && f.Type.TypeParams != nil && ranges(f):
			generic = append(generic, f.Name.Name)
		case ok && f.Name.Name == "Update":
			called = calls(f)
		}
	}
	if !slices.ContainsFunc(generic, func(name string) bool { return slices.Contains(called, name) }) {
		t.Errorf("Update calls %v, the generic functions that range over a function are %v", called, generic)
	}
}
