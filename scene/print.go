package scene

import (
	"strings"

	"penumbra/api"
	"penumbra/decimal"
	"penumbra/rat"
)

// Print answers a text that says the scene, as far as texts can.
func Print(sc api.Scene) string {
	lines := []string{
		line("waves", sc.Waves...),
		line("eye", coordinates(sc.Eye)...),
		line("look", coordinates(sc.Look)...),
		line("film", rat.Of(sc.W, 1), rat.Of(sc.H, 1), sc.Half),
	}
	lines = append(lines, each(sc.Mats, matLine)...)
	lines = append(lines, each(sc.Faces, faceLine)...)
	return strings.Join(lines, "")
}

// line answers the line of a first word and numbers.
func line(first string, numbers ...api.Rat) string {
	words := append([]string{first}, each(numbers, decimal.Print)...)
	return strings.Join(words, " ") + "\n"
}

// matLine answers the line of a material; none, if it has no kind.
func matLine(mat api.Mat) string {
	switch mat.Kind {
	case api.MatGlass:
		return line(matWords[mat.Kind], append([]api.Rat{mat.A, mat.B}, mat.Vals...)...)
	case api.MatDiffuse, api.MatMirror, api.MatLight:
		return line(matWords[mat.Kind], mat.Vals...)
	}
	return ""
}

func faceLine(face api.Face) string {
	return line("tri", append([]api.Rat{rat.Of(face.Mat, 1)}, coordinates(face.A, face.B, face.C)...)...)
}
