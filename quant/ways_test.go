package quant_test

import (
	"go/ast"
	"go/parser"
	"go/token"
	"go/types"
	"slices"
	"testing"
)

// arrays tells the names of the file's types that are arrays of so many things.
func arrays(file *ast.File, length, thing string) []string {
	var names []string
	ast.Inspect(file, func(n ast.Node) bool {
		if s, ok := n.(*ast.TypeSpec); ok {
			a, ok := s.Type.(*ast.ArrayType)
			if ok && a.Len != nil && types.ExprString(a.Len) == length && types.ExprString(a.Elt) == thing {
				names = append(names, s.Name.Name)
			}
		}
		return true
	})
	return names
}

// held tells the names of the function's variables that are of one of the types.
func held(f *ast.FuncDecl, of []string) []string {
	var names []string
	ast.Inspect(f, func(n ast.Node) bool {
		if v, ok := n.(*ast.ValueSpec); ok {
			if is, ok := v.Type.(*ast.Ident); ok && slices.Contains(of, is.Name) {
				for _, name := range v.Names {
					names = append(names, name.Name)
				}
			}
		}
		return true
	})
	return names
}

// leaves tells whether a switch in the loop goes on, or ends, the loop with the label.
func leaves(loop ast.Node, label string) bool {
	found := false
	ast.Inspect(loop, func(n ast.Node) bool {
		if s, ok := n.(*ast.SwitchStmt); ok {
			ast.Inspect(s, func(n ast.Node) bool {
				b, ok := n.(*ast.BranchStmt)
				found = found || ok && b.Label != nil && b.Label.Name == label
				return true
			})
		}
		return true
	})
	return found
}

// puts tells whether the loop puts things into one of the variables.
func puts(loop ast.Node, into []string) bool {
	found := false
	ast.Inspect(loop, func(n ast.Node) bool {
		if a, ok := n.(*ast.AssignStmt); ok {
			for _, left := range a.Lhs {
				if at, ok := left.(*ast.IndexExpr); ok {
					name, ok := at.X.(*ast.Ident)
					found = found || ok && slices.Contains(into, name.Name)
				}
			}
		}
		return true
	})
	return found
}

// walks tells whether the function goes on in a labelled loop that puts pieces into an array
// of one of the types.
func walks(f *ast.FuncDecl, of []string) bool {
	found := false
	ast.Inspect(f, func(n ast.Node) bool {
		if l, ok := n.(*ast.LabeledStmt); ok {
			found = found || leaves(l.Stmt, l.Label.Name) && puts(l.Stmt, held(f, of))
		}
		return true
	})
	return found
}

// calls tells whether the function calls one of those with these names.
func calls(f *ast.FuncDecl, names []string) bool {
	found := false
	ast.Inspect(f, func(n ast.Node) bool {
		if c, ok := n.(*ast.CallExpr); ok {
			name, ok := c.Fun.(*ast.Ident)
			found = found || ok && slices.Contains(names, name.Name)
		}
		return true
	})
	return found
}

// The chapter's section "Ways": the way goes on in a labelled loop, and its pieces are held
// in an array of the greatest length; Quantile and Way both tell it by that.
func TestWays(t *testing.T) {
	file, err := parser.ParseFile(token.NewFileSet(), "quant.go", nil, 0)
	if err != nil {
		t.Fatal(err)
	}
	greatest := arrays(file, "api.MaxBits + 1", "api.Piece")
	var walkers []string
	exported := map[string]*ast.FuncDecl{}
	for _, d := range file.Decls {
		f, ok := d.(*ast.FuncDecl)
		switch {
		case ok && walks(f, greatest):
			walkers = append(walkers, f.Name.Name)
		case ok && f.Name.IsExported():
			exported[f.Name.Name] = f
		}
	}
	for _, name := range []string{"Quantile", "Way"} {
		if f := exported[name]; f == nil || !calls(f, walkers) {
			t.Errorf("%s calls none of %v, which go on in a labelled loop with one of the arrays %v", name, walkers, greatest)
		}
	}
}
