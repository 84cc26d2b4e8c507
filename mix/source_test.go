package mix_test

import (
	"go/ast"
	"go/importer"
	"go/parser"
	"go/token"
	"go/types"
	"path/filepath"
	"strings"
	"testing"
)

// What stands in no conversion Go may fuse with what it goes into. No answer of a compiler that doesn't do so shows it: the source does.

func readSource(t *testing.T) ([]*ast.File, *types.Info) {
	t.Helper()
	names, err := filepath.Glob("*.go")
	if err != nil {
		t.Fatal(err)
	}
	set := token.NewFileSet()
	var files []*ast.File
	for _, n := range names {
		if strings.HasSuffix(n, "_test.go") {
			continue
		}
		f, err := parser.ParseFile(set, n, nil, 0)
		if err != nil {
			t.Fatal(err)
		}
		files = append(files, f)
	}
	info := &types.Info{Types: map[ast.Expr]types.TypeAndValue{}}
	config := types.Config{Importer: importer.ForCompiler(set, "source", nil)}
	if _, err := config.Check("halide/mix", set, files, info); err != nil {
		t.Fatal(err)
	}
	return files, info
}

// isFloat: of an expression that is no constant.
func isFloat(info *types.Info, e ast.Expr) bool {
	told := info.Types[e]
	if told.Type == nil || told.Value != nil {
		return false
	}
	b, ok := told.Type.Underlying().(*types.Basic)
	return ok && b.Info()&types.IsFloat != 0
}

func TestP15_1EachOperationStandsInAConversion(t *testing.T) {
	files, info := readSource(t)
	converted := map[ast.Expr]bool{}
	operations := 0
	see := func(n ast.Node) bool {
		switch x := n.(type) {
		case *ast.CallExpr: // seen ahead of what stands in it
			if info.Types[x.Fun].IsType() && len(x.Args) == 1 {
				converted[ast.Unparen(x.Args[0])] = true
			}
		case *ast.BinaryExpr:
			if isFloat(info, x) {
				operations++
				if !converted[x] {
					t.Errorf("%s stands in no conversion", types.ExprString(x))
				}
			}
		case *ast.AssignStmt:
			if x.Tok != token.ASSIGN && x.Tok != token.DEFINE && isFloat(info, x.Lhs[0]) {
				t.Errorf("%s %s stands in no conversion", types.ExprString(x.Lhs[0]), x.Tok)
			}
		}
		return true
	}
	for _, f := range files {
		ast.Inspect(f, see)
	}
	if operations == 0 {
		t.Error("no operation seen")
	}
}
