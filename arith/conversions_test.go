package arith_test

import (
	"go/ast"
	"go/importer"
	"go/parser"
	"go/token"
	"go/types"
	"os"
	"path/filepath"
	"strings"
	"testing"
)

// sourcesOf: the package's files but its tests, and what each expression's type is.
func sourcesOf(t *testing.T, folder string) ([]*ast.File, *types.Info) {
	t.Helper()
	names, err := os.ReadDir(folder)
	if err != nil {
		t.Fatal(err)
	}
	set := token.NewFileSet()
	var files []*ast.File
	for _, n := range names {
		if !strings.HasSuffix(n.Name(), ".go") || strings.HasSuffix(n.Name(), "_test.go") {
			continue
		}
		f, err := parser.ParseFile(set, filepath.Join(folder, n.Name()), nil, 0)
		if err != nil {
			t.Fatal(err)
		}
		files = append(files, f)
	}
	info := &types.Info{Types: map[ast.Expr]types.TypeAndValue{}}
	config := types.Config{Importer: importer.ForCompiler(set, "source", nil)}
	if _, err := config.Check("halide/arith", set, files, info); err != nil {
		t.Fatal(err)
	}
	return files, info
}

// narrows: whether it is a conversion of a float64 that isn't constant to a float32.
func narrows(call *ast.CallExpr, info *types.Info) bool {
	if !info.Types[call.Fun].IsType() || len(call.Args) != 1 {
		return false
	}
	of := info.Types[call.Args[0]]
	kind := func(t types.Type) types.BasicKind {
		b, _ := t.Underlying().(*types.Basic)
		if b == nil {
			return types.Invalid
		}
		return b.Kind()
	}
	return of.Value == nil && kind(info.Types[call].Type) == types.Float32 && kind(of.Type) == types.Float64
}

// Of a number that is too great Go leaves open what a conversion tells: no compiler's answers show that it isn't asked, the source does.
func TestP2_1ConversionsStandBehindTheBound(t *testing.T) {
	files, info := sourcesOf(t, ".")
	var within []string
	for _, f := range files {
		for _, d := range f.Decls {
			ast.Inspect(d, func(n ast.Node) bool {
				if call, ok := n.(*ast.CallExpr); ok && narrows(call, info) {
					name := "no function"
					if fn, ok := d.(*ast.FuncDecl); ok {
						name = fn.Name.Name
					}
					within = append(within, name)
				}
				return true
			})
		}
	}
	if len(within) != 1 || within[0] != "narrowed" {
		t.Errorf("conversions of a float64 to a float32 stand in %q: want one, in narrowed, behind the bound", within)
	}
}
