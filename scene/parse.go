package scene

import (
	"strings"

	"penumbra/api"
	"penumbra/decimal"
	"penumbra/rat"
)

// mostWhole is the greatest whole number that a text may say.
const mostWhole = 1_000_000

// Parse answers the scene that a text says, 0 and OK; with an error the zero scene, and the line at which it is (0, if it is at none).
func Parse(s string) (api.Scene, int, api.Errno) {
	if len(s) > api.MaxText {
		return api.Scene{}, 0, api.ErrSceneLong
	}
	r := &reader{stood: map[string]int{}}
	for _, line := range strings.Split(s, "\n") {
		if wrong := r.readLine(line); wrong.err != api.OK {
			return api.Scene{}, wrong.line, wrong.err
		}
	}
	if r.isLacking() {
		return api.Scene{}, 0, api.ErrSceneLack
	}
	if err := Check(r.Scene); err != api.OK {
		return api.Scene{}, 0, err
	}
	return r.Scene, 0, api.OK
}

// reader is the scene as far as it was read, the number of the line that is read, and at which lines those words stood that may stand once.
type reader struct {
	api.Scene
	line  int
	stood map[string]int
}

// fault is what is wrong with a line: no reading goes on behind it, so it is a panic's value.
type fault struct {
	line int
	err  api.Errno
}

func (r *reader) fail(err api.Errno) { panic(fault{r.line, err}) }

// readLine reads the next line, and answers what is wrong with it; else the zero fault.
func (r *reader) readLine(text string) (wrong fault) {
	defer func() {
		if what := recover(); what != nil {
			wrong = what.(fault)
		}
	}()
	r.line++
	if words := wordsOf(text); len(words) > 0 {
		r.take(words[0], words[1:])
	}
	return fault{}
}

// wordsOf answers the words of a line, without its remark.
func wordsOf(line string) []string {
	said, _, _ := strings.Cut(line, "#")
	return strings.FieldsFunc(said, func(c rune) bool { return c == '\t' || c == '\r' || c == ' ' })
}

// take takes in what a line says by its first word and the others.
func (r *reader) take(first string, rest []string) {
	switch first {
	case "waves":
		r.onlyOnce(first)
		r.Waves = r.numbers(rest, 1)
	case "eye":
		r.onlyOnce(first)
		r.Eye = r.point(rest)
	case "look":
		r.onlyOnce(first)
		r.Look = r.point(rest)
	case "film":
		r.onlyOnce(first)
		r.just(rest, 3)
		r.W, r.H, r.Half = r.whole(rest[0]), r.whole(rest[1]), r.number(rest[2])
	case "tri":
		r.Faces = append(r.Faces, r.face(rest))
	default:
		r.Mats = append(r.Mats, r.material(first, rest))
	}
}

func (r *reader) onlyOnce(word string) {
	if r.stood[word] > 0 {
		r.fail(api.ErrSceneTwice)
	}
	r.stood[word] = r.line
}

// isLacking answers whether a word that must stand stood at no line.
func (r *reader) isLacking() bool {
	return r.stood["waves"] == 0 || r.stood["eye"] == 0 || r.stood["look"] == 0 || r.stood["film"] == 0
}

func (r *reader) face(words []string) api.Face {
	r.just(words, 10)
	mat, corners := r.whole(words[0]), words[1:]
	return api.Face{Tri: api.Tri{A: r.point(corners[:3]), B: r.point(corners[3:6]), C: r.point(corners[6:])}, Mat: mat}
}

func (r *reader) material(first string, rest []string) api.Mat {
	kind := r.kind(first)
	if kind == api.MatGlass {
		numbers := r.numbers(rest, 3)
		return api.Mat{Kind: kind, A: numbers[0], B: numbers[1], Vals: numbers[2:]}
	}
	return api.Mat{Kind: kind, A: rat.Of(0, 1), B: rat.Of(0, 1), Vals: r.numbers(rest, 1)}
}

func (r *reader) kind(word string) int {
	for kind, known := range matWords {
		if known == word {
			return kind
		}
	}
	r.fail(api.ErrSceneWord)
	return api.MatKinds
}

func (r *reader) just(words []string, count int) {
	if len(words) != count {
		r.fail(api.ErrSceneCount)
	}
}

// numbers answers the numbers of words, of which there must be least at least.
func (r *reader) numbers(words []string, least int) []api.Rat {
	if len(words) < least {
		r.fail(api.ErrSceneCount)
	}
	return each(words, r.number)
}

func (r *reader) point(words []string) api.Vec {
	r.just(words, 3)
	numbers := each(words, r.number)
	return api.Vec{X: numbers[0], Y: numbers[1], Z: numbers[2]}
}

func (r *reader) number(word string) api.Rat {
	value, err := decimal.Parse(word)
	if err != api.OK {
		r.fail(api.ErrSceneNumber)
	}
	return value
}

func (r *reader) whole(word string) int {
	value := r.number(word)
	if rat.Sign(value) < 0 || rat.Cmp(value, rat.Of(mostWhole, 1)) > 0 || !rat.Same(value, rat.Floor(value)) {
		r.fail(api.ErrSceneNumber)
	}
	if rat.Sign(value) == 0 {
		return 0
	}
	return int(value.Num[0])
}
