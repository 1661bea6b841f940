// Package rules holds the tests of what is asked of all the program's packages alike.
package rules

import (
	"go/ast"
	"go/parser"
	"go/token"
	"io/fs"
	"path/filepath"
	"slices"
	"strconv"
	"strings"
	"testing"
)

// below is the column 'calls' of the document's map: the packages that each layer may call.
var below = map[string]string{
	"api":     "",
	"nat":     "api",
	"root":    "api nat",
	"rat":     "api nat root",
	"decimal": "api nat rat",
	"vec":     "api rat",
	"frame":   "api rat vec",
	"affine":  "api rat vec",
	"tri":     "api rat vec",
	"scene":   "api rat decimal vec tri",
	"boxes":   "api rat",
	"bvh":     "api rat boxes",
	"trace":   "api rat vec tri boxes bvh",
	"draws":   "api nat rat",
	"warp":    "api rat",
	"chain":   "api vec affine tri scene bvh trace",
	"dens":    "api rat vec frame affine warp",
	"walk":    "api frame scene warp chain dens",
	"weigh":   "api affine dens",
	"join":    "api trace dens walk weigh",
	"film":    "api rat decimal",
	"grid":    "api nat rat",
	"ball":    "api rat vec grid",
	"kd":      "api rat ball",
	"merge":   "api draws walk weigh join ball kd",
	"pool":    "api rat film",
	"render":  "api rat scene draws merge film pool",
	"conf":    "api rat decimal draws",
	"desk":    "api scene film conf render",
}

const library = "bytes cmp container/heap errors iter maps math math/bits slices sort strconv strings sync sync/atomic unicode unicode/utf8"

// sources are the program's files without its tests, by their paths in the project.
func sources(t *testing.T) map[string]*ast.File {
	t.Helper()
	files := map[string]*ast.File{}
	err := filepath.WalkDir("..", func(path string, entry fs.DirEntry, err error) error {
		if err != nil {
			return err
		}
		name := entry.Name()
		if entry.IsDir() && path != ".." && (strings.HasPrefix(name, ".") || name == "sharedtests") {
			return filepath.SkipDir
		}
		if !strings.HasSuffix(name, ".go") || strings.HasSuffix(name, "_test.go") {
			return nil
		}
		file, err := parser.ParseFile(token.NewFileSet(), path, nil, parser.ParseComments)
		files[filepath.ToSlash(strings.TrimPrefix(path, ".."+string(filepath.Separator)))] = file
		return err
	})
	if err != nil {
		t.Fatal(err)
	}
	return files
}

func TestEachLayerIsThere(t *testing.T) {
	files := sources(t)
	for layer := range below {
		if files[layer+"/"+layer+".go"] == nil {
			t.Errorf("package %s is lacking", layer)
		}
	}
}

// P2: no float stands in the program, neither as a kind nor as a number.
func TestNoFloats(t *testing.T) {
	kinds := []string{"float32", "float64", "complex64", "complex128"}
	for path, file := range sources(t) {
		ast.Inspect(file, func(node ast.Node) bool {
			switch n := node.(type) {
			case *ast.Ident:
				if slices.Contains(kinds, n.Name) {
					t.Errorf("%s: %s", path, n.Name)
				}
			case *ast.BasicLit:
				if n.Kind == token.FLOAT || n.Kind == token.IMAG {
					t.Errorf("%s: %s", path, n.Value)
				}
			}
			return true
		})
	}
}

// A layer stands on those of the map's column 'calls' and on few packages of the library.
func TestImports(t *testing.T) {
	for path, file := range sources(t) {
		layer, _, _ := strings.Cut(path, "/")
		allowed, isLayer := below[layer]
		for _, spec := range file.Imports {
			name, err := strconv.Unquote(spec.Path.Value)
			if err != nil {
				t.Fatal(err)
			}
			own, isOwn := strings.CutPrefix(name, "penumbra/")
			switch {
			case !isOwn && !slices.Contains(strings.Fields(library), name):
				t.Errorf("%s: %s is not a package for the program", path, name)
			case isOwn && isLayer && below[own] != "" && !slices.Contains(strings.Fields(allowed), own):
				t.Errorf("%s: %s does not stand below this layer", path, own)
			}
		}
	}
}

// The language's rules: no line for the compiler, no build tag.
func TestNoCompilerLines(t *testing.T) {
	for path, file := range sources(t) {
		for _, group := range file.Comments {
			for _, comment := range group.List {
				if strings.HasPrefix(comment.Text, "//go:") || strings.HasPrefix(comment.Text, "// +build") {
					t.Errorf("%s: %s", path, comment.Text)
				}
			}
		}
	}
}
