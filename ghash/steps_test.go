package ghash

import (
	"go/ast"
	"go/parser"
	"go/token"
	"go/types"
	"slices"
	"testing"
)

// Answers can't show that no step hangs on a block (P10.1, T4), nor that nothing is kept: the text can.

func readText(t *testing.T) *ast.File {
	t.Helper()
	f, err := parser.ParseFile(token.NewFileSet(), "ghash.go", nil, 0)
	if err != nil {
		t.Fatal(err)
	}
	return f
}

func functions(t *testing.T) []*ast.FuncDecl {
	t.Helper()
	var all []*ast.FuncDecl
	for _, d := range readText(t).Decls {
		if f, ok := d.(*ast.FuncDecl); ok {
			all = append(all, f)
		}
	}
	return all
}

func TestKeepsNothing(t *testing.T) {
	for _, d := range readText(t).Decls {
		if g, ok := d.(*ast.GenDecl); ok && g.Tok == token.VAR {
			t.Error("a variable at package level")
		}
	}
}

func TestGoesOneWay(t *testing.T) {
	for _, f := range functions(t) {
		ast.Inspect(f, func(n ast.Node) bool {
			for _, told := range deciding(n) {
				if !slices.Contains(open(), told) {
					t.Errorf("%s: a step hangs on %s", f.Name.Name, told)
				}
			}
			switch x := n.(type) {
			case *ast.IfStmt, *ast.SwitchStmt, *ast.TypeSwitchStmt, *ast.SelectStmt, *ast.BranchStmt, *ast.DeferStmt, *ast.GoStmt, *ast.FuncLit:
				t.Errorf("%s: chooses its steps by %T", f.Name.Name, x)
			}
			return true
		})
	}
}

// open are the expressions that may decide a step: each is the same, whatever the blocks are.
func open() []string {
	return []string{
		"blockBits", "blockSize", "halfSize", "at < len(b)",
		"i", "i / 8", "halfSize + i", "at",
		"1", "8", "56", "63", "(7 - i % 8)", "(56 - 8 * i)",
		"7", "i % 8", "8 * i",
	}
}

// deciding are the expressions by which a part of the text goes on, finds its place or shifts bits:
// what decides how often, where or, for some processors, how long.
func deciding(n ast.Node) []string {
	var all []ast.Expr
	switch x := n.(type) {
	case *ast.RangeStmt:
		all = append(all, x.X)
	case *ast.ForStmt:
		all = append(all, x.Cond)
	case *ast.IndexExpr:
		all = append(all, x.Index)
	case *ast.SliceExpr:
		all = append(all, x.Low, x.High, x.Max)
	case *ast.BinaryExpr:
		switch x.Op {
		case token.SHL, token.SHR:
			all = append(all, x.Y)
		case token.QUO, token.REM:
			all = append(all, x.X, x.Y)
		case token.LAND, token.LOR:
			all = append(all, x)
		}
	}
	var told []string
	for _, e := range all {
		if e != nil {
			told = append(told, types.ExprString(e))
		}
	}
	return told
}

// The places themselves are counted, never made of a block.
func TestPlacesAreCounted(t *testing.T) {
	for _, f := range functions(t) {
		ast.Inspect(f, func(n ast.Node) bool {
			x, ok := n.(*ast.AssignStmt)
			if !ok {
				return true
			}
			for i, left := range x.Lhs {
				told := types.ExprString(left)
				if told != "i" && told != "at" {
					continue
				}
				if right := types.ExprString(x.Rhs[i]); right != "0" && right != "blockSize" {
					t.Errorf("%s: the place %s is made of %s", f.Name.Name, told, right)
				}
			}
			return true
		})
	}
}

// Bits are ranged over, and blocks are arrays that are handed on as values.
func TestWays(t *testing.T) {
	var ranges []string
	for _, f := range functions(t) {
		ast.Inspect(f, func(n ast.Node) bool {
			switch x := n.(type) {
			case *ast.RangeStmt:
				ranges = append(ranges, f.Name.Name+": "+types.ExprString(x.X))
			case *ast.StarExpr:
				t.Errorf("%s has a pointer", f.Name.Name)
			}
			return true
		})
	}
	if !slices.Contains(ranges, "Mul: blockBits") {
		t.Errorf("Mul doesn't range over bits: %v", ranges)
	}
}
