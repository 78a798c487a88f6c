package merge_test

import (
	"go/ast"
	"go/parser"
	"go/token"
	"slices"
	"testing"
)

// fields tells the names of the fields of the file's structs that are functions.
func fields(file *ast.File) []string {
	var names []string
	ast.Inspect(file, func(n ast.Node) bool {
		if s, ok := n.(*ast.StructType); ok {
			for _, f := range s.Fields.List {
				if _, ok := f.Type.(*ast.FuncType); ok {
					for _, name := range f.Names {
						names = append(names, name.Name)
					}
				}
			}
		}
		return true
	})
	return names
}

// handsOn tells whether the function hands on that of package level with this name, as the
// value of one of the fields, and does not call it.
func handsOn(f *ast.FuncDecl, name string, fields []string) bool {
	found := false
	ast.Inspect(f, func(n ast.Node) bool {
		if kv, ok := n.(*ast.KeyValueExpr); ok {
			key, ok := kv.Key.(*ast.Ident)
			value, is := kv.Value.(*ast.SelectorExpr)
			if ok && is && slices.Contains(fields, key.Name) {
				from, ok := value.X.(*ast.Ident)
				found = found || ok && from.Name == "level" && value.Sel.Name == name
			}
		}
		return true
	})
	return found
}

// asks tells whether the function that one of the fields has is called in the code.
func asks(code ast.Node, fields []string) bool {
	found := false
	ast.Inspect(code, func(n ast.Node) bool {
		if c, ok := n.(*ast.CallExpr); ok {
			field, ok := c.Fun.(*ast.SelectorExpr)
			found = found || ok && slices.Contains(fields, field.Sel.Name)
		}
		return true
	})
	return found
}

// ends tells whether a switch in the loop over what one of the fields' functions tells ends
// the loop with this label.
func ends(loop ast.Node, label string, fields []string) bool {
	found := false
	ast.Inspect(loop, func(n ast.Node) bool {
		s, ok := n.(*ast.SwitchStmt)
		if !ok || s.Init == nil || !asks(s.Init, fields) {
			return true
		}
		ast.Inspect(s.Body, func(n ast.Node) bool {
			b, ok := n.(*ast.BranchStmt)
			found = found || ok && b.Tok == token.BREAK && b.Label != nil && b.Label.Name == label
			return true
		})
		return true
	})
	return found
}

// The chapter's section "Ways": which calls of layer 13 are done is told by function values,
// and what one level tells ends a labelled loop.
func TestWays(t *testing.T) {
	file, err := parser.ParseFile(token.NewFileSet(), "merge.go", nil, 0)
	if err != nil {
		t.Fatal(err)
	}
	named := fields(file)
	ended := false
	all := map[string]*ast.FuncDecl{}
	for _, d := range file.Decls {
		if f, ok := d.(*ast.FuncDecl); ok {
			all[f.Name.Name] = f
			ast.Inspect(f, func(n ast.Node) bool {
				if l, ok := n.(*ast.LabeledStmt); ok {
					_, over := l.Stmt.(*ast.RangeStmt)
					ended = ended || over && ends(l.Stmt, l.Label.Name, named)
				}
				return true
			})
		}
	}
	for _, name := range []string{"Merge", "Subtract"} {
		if f := all[name]; f == nil || !handsOn(f, name, named) {
			t.Errorf("%s does not hand on that of package level as one of the function values %v", name, named)
		}
	}
	if !ended {
		t.Errorf("no labelled loop is ended by what one of the function values %v tells", named)
	}
}
