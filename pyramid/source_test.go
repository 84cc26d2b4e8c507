package pyramid_test

import (
	"go/ast"
	"go/importer"
	"go/parser"
	"go/token"
	"go/types"
	"os"
	"strings"
	"testing"
)

// What a compiler may do otherwise than others no answers of one of them show: the source does.

// source: the package's files but its tests, and what each expression's type is.
type source struct {
	files []*ast.File
	info  *types.Info
}

func readSource(t *testing.T) source {
	t.Helper()
	names, err := os.ReadDir(".")
	if err != nil {
		t.Fatal(err)
	}
	set := token.NewFileSet()
	s := source{info: &types.Info{Types: map[ast.Expr]types.TypeAndValue{}}}
	for _, n := range names {
		if !strings.HasSuffix(n.Name(), ".go") || strings.HasSuffix(n.Name(), "_test.go") {
			continue
		}
		f, err := parser.ParseFile(set, n.Name(), nil, 0)
		if err != nil {
			t.Fatal(err)
		}
		s.files = append(s.files, f)
	}
	config := types.Config{Importer: importer.ForCompiler(set, "source", nil)}
	if _, err := config.Check("halide/pyramid", set, s.files, s.info); err != nil {
		t.Fatal(err)
	}
	return s
}

// floatOf: Float32, Float64, or neither; constants are exact.
func (s source) floatOf(e ast.Expr) types.BasicKind {
	told := s.info.Types[e]
	if told.Type == nil || told.Value != nil {
		return types.Invalid
	}
	if b, ok := told.Type.Underlying().(*types.Basic); ok && b.Info()&types.IsFloat != 0 {
		return b.Kind()
	}
	return types.Invalid
}

// eachConversion: of one argument, and the function that it stands in.
func (s source) eachConversion(do func(function string, call *ast.CallExpr)) {
	for _, f := range s.files {
		for _, d := range f.Decls {
			name := "no function"
			if fn, ok := d.(*ast.FuncDecl); ok {
				name = fn.Name.Name
			}
			ast.Inspect(d, func(n ast.Node) bool {
				if call, ok := n.(*ast.CallExpr); ok && s.info.Types[call.Fun].IsType() && len(call.Args) == 1 {
					do(name, call)
				}
				return true
			})
		}
	}
}

// Of a number that is too great Go leaves open what a conversion to binary32 tells.
func TestP14_1ConversionsStandBehindTheBound(t *testing.T) {
	s := readSource(t)
	var within []string
	s.eachConversion(func(function string, call *ast.CallExpr) {
		if s.floatOf(call) == types.Float32 && s.floatOf(call.Args[0]) == types.Float64 {
			within = append(within, function)
		}
	})
	if len(within) != 1 || within[0] != "sample" {
		t.Errorf("conversions of a float64 to a float32 stand in %q: want one, in sample, behind the bound", within)
	}
}

// What stands in no conversion Go may fuse with what it goes into.
func TestP14_1EachOperationStandsInAConversion(t *testing.T) {
	s := readSource(t)
	converted := map[ast.Expr]bool{}
	s.eachConversion(func(_ string, call *ast.CallExpr) { converted[ast.Unparen(call.Args[0])] = true })
	operations := 0
	for _, f := range s.files {
		ast.Inspect(f, func(n ast.Node) bool {
			switch x := n.(type) {
			case *ast.BinaryExpr:
				if s.floatOf(x) != types.Invalid {
					operations++
					if !converted[x] {
						t.Errorf("%s stands in no conversion", types.ExprString(x))
					}
				}
			case *ast.AssignStmt:
				if x.Tok != token.ASSIGN && x.Tok != token.DEFINE && s.floatOf(x.Lhs[0]) != types.Invalid {
					t.Errorf("%s %s stands in no conversion", types.ExprString(x.Lhs[0]), x.Tok)
				}
			}
			return true
		})
	}
	if operations == 0 {
		t.Error("no operation seen")
	}
}
