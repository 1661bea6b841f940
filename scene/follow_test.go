package scene

import (
	"math/big"
	"math/rand/v2"
	"regexp"
	"strings"
	"testing"

	"penumbra/api"
)

// someNumber makes a number from 0 to most, or near to 0, or of many digits.
func someNumber(r *rand.Rand, most *big.Rat) api.Rat {
	share := pick(r, big.NewRat(0, 1), big.NewRat(1, 1), big.NewRat(r.Int64N(8), 7), big.NewRat(r.Int64N(1<<30), 1<<30), big.NewRat(1, 1+r.Int64N(1<<50)))
	return ratOf(new(big.Rat).Mul(most, share))
}

// somePlace makes a number of either sign.
func somePlace(r *rand.Rand) *big.Rat {
	return big.NewRat(pick(r, 0, r.Int64N(9)-4, r.Int64N(1<<30)-1<<29), pick(r, 1, 1, 1+r.Int64N(9), 1+r.Int64N(1<<20)))
}

// someDirections makes three directions of length 1 at right angles, by whole numbers p, q and s: the turn of a quaternion.
func someDirections(r *rand.Rand) [3][3]*big.Rat {
	w, p, q, s := 1+r.Int64N(6), r.Int64N(9)-4, r.Int64N(9)-4, r.Int64N(9)-4
	if r.IntN(3) == 0 {
		p, q, s = 0, 0, 0
	}
	all := w*w + p*p + q*q + s*s
	of := func(x, y, z int64) [3]*big.Rat {
		return [3]*big.Rat{big.NewRat(x, all), big.NewRat(y, all), big.NewRat(z, all)}
	}
	return [3][3]*big.Rat{
		of(w*w+p*p-q*q-s*s, 2*(p*q+w*s), 2*(p*s-w*q)),
		of(2*(p*q-w*s), w*w-p*p+q*q-s*s, 2*(q*s+w*p)),
		of(2*(p*s+w*q), 2*(q*s-w*p), w*w-p*p-q*q+s*s),
	}
}

func vecOf(l [3]*big.Rat) api.Vec { return api.Vec{X: ratOf(l[0]), Y: ratOf(l[1]), Z: ratOf(l[2])} }

// away answers the place that lies k times a direction from another one.
func away(from [3]*big.Rat, k *big.Rat, along [3]*big.Rat) [3]*big.Rat {
	var out [3]*big.Rat
	for i := range out {
		out[i] = new(big.Rat).Mul(k, along[i])
		out[i].Add(out[i], from[i])
	}
	return out
}

func someMat(r *rand.Rand, bins int) api.Mat {
	m := api.Mat{Kind: r.IntN(api.MatKinds), A: none(), B: none()}
	most := []*big.Rat{big.NewRat(1, 4), big.NewRat(1, 1), big.NewRat(1, 1), big.NewRat(1000, 3)}[m.Kind]
	for range bins {
		m.Vals = append(m.Vals, someNumber(r, most))
	}
	if m.Kind == api.MatGlass {
		m.A, m.B = ratOf(big.NewRat(1+r.Int64N(9), 1+r.Int64N(9))), ratOf(big.NewRat(r.Int64N(9), 1+r.Int64N(9)))
	}
	return m
}

func someFace(r *rand.Rand, mats int) api.Face {
	d := someDirections(r)
	corner := [3]*big.Rat{big.NewRat(r.Int64N(99)-49, 1+r.Int64N(9)), big.NewRat(r.Int64N(99)-49, 1+r.Int64N(9)), big.NewRat(r.Int64N(99)-49, 1+r.Int64N(9))}
	second := away(corner, big.NewRat(1+r.Int64N(99), 1+r.Int64N(9)), d[0])
	third := away(away(corner, big.NewRat(r.Int64N(9)-4, 3), d[0]), big.NewRat(1+r.Int64N(99), 1+r.Int64N(9)), d[1])
	return api.Face{Tri: api.Tri{A: vecOf(corner), B: vecOf(second), C: vecOf(third)}, Mat: r.IntN(mats)}
}

// someScene makes a scene that may be.
func someScene(r *rand.Rand) api.Scene {
	var sc api.Scene
	for range 1 + r.IntN(api.MaxBins) {
		sc.Waves = append(sc.Waves, ratOf(big.NewRat(1+r.Int64N(1<<20), 1+r.Int64N(99))))
	}
	for range 1 + r.IntN(6) {
		sc.Mats = append(sc.Mats, someMat(r, len(sc.Waves)))
	}
	for range 1 + r.IntN(6) {
		sc.Faces = append(sc.Faces, someFace(r, len(sc.Mats)))
	}
	sc.Eye, sc.Look = vecOf([3]*big.Rat{somePlace(r), somePlace(r), somePlace(r)}), vecOf(someDirections(r)[2])
	sc.W, sc.H, sc.Half = 1+r.IntN(api.MaxSide), 1+r.IntN(api.MaxSide), ratOf(big.NewRat(1+r.Int64N(99), 1+r.Int64N(99)))
	return sc
}

// P9.4: of a scene that may be Parse of Print is the scene.
func TestParseOfPrint(t *testing.T) {
	r := source(1)
	for range 300 {
		sc := someScene(r)
		isChecked(t, sc, api.OK)
		isParsed(t, Print(sc), sc)
	}
	for _, sc := range []api.Scene{plain(), rich(), limit()} {
		isParsed(t, Print(sc), sc)
	}
}

// P9.4: also where all numbers are as long as they may be: the text is not too long then.
func TestParseOfLongPrints(t *testing.T) {
	sc := limit()
	one, two := word("-18446744073709551557/18446744073709551533"), word("-18446744073709551521/18446744073709551533")
	for i := range sc.Faces {
		sc.Faces[i].Tri = api.Tri{A: api.Vec{X: one, Y: one, Z: one}, B: api.Vec{X: two, Y: one, Z: one}, C: api.Vec{X: one, Y: two, Z: one}}
	}
	for i := range sc.Mats {
		for j := range sc.Mats[i].Vals {
			sc.Mats[i].Vals[j] = word("2305843009213693951/18446744073709551533")
		}
	}
	isChecked(t, sc, api.OK)
	if text := Print(sc); len(text) < api.MaxText/2 || len(text) > api.MaxText {
		t.Errorf("%d bytes", len(text))
	}
	isParsed(t, Print(sc), sc)
}

// P9.4: Print of Parse of Print is the print, and says the same however the numbers are written.
func TestPrintOfParseOfPrint(t *testing.T) {
	r := source(2)
	for range 100 {
		sc := someScene(r)
		text := Print(sc)
		again, _, _ := Parse(text)
		isPrinted(t, again, text)
		for _, place := range placesOf(&sc) {
			*place = pick(r, writings(*place)...)
		}
		isPrinted(t, sc, text)
		isParsed(t, Print(sc), again)
	}
}

// spread puts blanks, remarks and lines without words into a text, and answers at which line each line of it stands then.
func spread(r *rand.Rand, text string) (string, []int) {
	blanks := func(least int) string {
		var b strings.Builder
		for range least + r.IntN(3) {
			b.WriteString(pick(r, " ", "\t", "\r"))
		}
		return b.String()
	}
	remark := func() string {
		return pick(r, "", "", "#", "# waves 1", "#x#y", "# \xff\x00 tri", "#\u2028\v eye")
	}
	var out strings.Builder
	var at []int
	line := 0
	for _, said := range strings.Split(strings.TrimSuffix(text, "\n"), "\n") {
		for range r.IntN(3) {
			out.WriteString(blanks(0) + remark() + "\n")
			line++
		}
		line++
		at = append(at, line)
		for i, word := range strings.Fields(said) {
			out.WriteString(blanks(min(i, 1)) + word)
		}
		out.WriteString(blanks(0) + remark() + "\n")
	}
	out.WriteString(blanks(0) + remark())
	return out.String(), at
}

// P9.4: lines without words, remarks and blanks change nothing.
func TestSpreadTexts(t *testing.T) {
	r := source(3)
	for range 200 {
		sc := someScene(r)
		text, _ := spread(r, Print(sc))
		isParsed(t, text, sc)
	}
	for range 30 {
		text, _ := spread(r, richText)
		isParsed(t, text, rich())
	}
}

// P9.4: they change the numbers of lines, and nothing else of what is told of a wrong text.
func TestSpreadTextsThatAreWrong(t *testing.T) {
	r := source(4)
	for range 400 {
		wrong := someText(r)
		_, line, err := Parse(wrong)
		text, at := spread(r, wrong)
		if line > 0 {
			line = at[line-1]
		}
		if err == api.OK {
			sc, _, _ := Parse(wrong)
			isParsed(t, text, sc)
		} else {
			isWrong(t, text, line, err)
		}
	}
}

// someText makes lines of which most are right, and one or none is wrong in some way.
func someText(r *rand.Rand) string {
	lines := strings.Split(strings.TrimSuffix(pick(r, plainText, richText), "\n"), "\n")
	for range r.IntN(3) {
		i := r.IntN(len(lines))
		words := strings.Fields(lines[i])
		if len(words) == 0 {
			continue
		}
		j := r.IntN(len(words))
		switch r.IntN(6) {
		case 0:
			words[j] = pick(r, "x", "1/0", "-1", "7/2", "waves", "eye", "tri", "light", "1000001", "2", "0", "17", "glass", "mirror", "film")
		case 1:
			words = append(words[:j:j], words[j+1:]...)
		case 2:
			words = append(words, pick(r, "1", "x"))
		case 3:
			words = append(words, "\n", pick(r, strings.Fields(richText)...), "1", "1", "1")
		case 4:
			words = append(words, "\n", lines[r.IntN(len(lines))])
		default:
			words = nil
		}
		lines[i] = strings.Join(words, " ")
		lines = strings.Split(strings.Join(lines, "\n"), "\n")
	}
	return strings.Join(lines, "\n")
}

var (
	blankPattern  = regexp.MustCompile(`[\t\r ]+`)
	numberPattern = regexp.MustCompile(`^-?[0-9]+([.][0-9]+|/0*[1-9][0-9]*)?$`)
)

func isNumberWord(word string) bool {
	return len(word) <= api.MaxDigit && numberPattern.MatchString(word)
}

func isWholeWord(word string) bool {
	if !isNumberWord(word) {
		return false
	}
	value := valueWord(word)
	return value.IsInt() && value.Sign() >= 0 && value.Cmp(big.NewRat(1000000, 1)) <= 0
}

// faultOf tells what is wrong with a line by another reader: by patterns, of the words that stood ahead.
func faultOf(line string, stood map[string]bool) api.Errno {
	said := strings.Split(line, "#")[0]
	words := strings.Split(strings.Trim(blankPattern.ReplaceAllString(said, " "), " "), " ")
	first, rest := words[0], words[1:]
	if first == "" {
		return api.OK
	}
	least, most, wholes := map[string]int{"waves": 1, "eye": 3, "look": 3, "film": 3, "diffuse": 1, "mirror": 1, "light": 1, "glass": 3, "tri": 10}, map[string]int{"eye": 3, "look": 3, "film": 3, "tri": 10}, map[string]int{"film": 2, "tri": 1}
	once := most[first] == 3 || first == "waves"
	if least[first] == 0 {
		return api.ErrSceneWord
	}
	if once && stood[first] {
		return api.ErrSceneTwice
	}
	if len(rest) < least[first] || most[first] > 0 && len(rest) > most[first] {
		return api.ErrSceneCount
	}
	for i, word := range rest {
		if !isNumberWord(word) || i < wholes[first] && !isWholeWord(word) {
			return api.ErrSceneNumber
		}
	}
	stood[first] = once
	return api.OK
}

// wantOf is what another reader tells of a text, up to what Check tells.
func wantOf(text string) (int, api.Errno) {
	stood := map[string]bool{}
	for i, line := range strings.Split(text, "\n") {
		if err := faultOf(line, stood); err != api.OK {
			return i + 1, err
		}
	}
	for _, word := range []string{"waves", "eye", "look", "film"} {
		if !stood[word] {
			return 0, api.ErrSceneLack
		}
	}
	return 0, api.OK
}

// isAsRead holds Parse against the other reader.
func isAsRead(t *testing.T, text string) api.Errno {
	t.Helper()
	line, err := wantOf(text)
	if err != api.OK {
		isWrong(t, text, line, err)
		return err
	}
	sc, _, err := Parse(text)
	if err == api.OK {
		isChecked(t, sc, api.OK, text)
		isParsed(t, Print(sc), sc)
		return api.OK
	}
	if err < api.ErrSceneMany || err > api.ErrSceneView {
		t.Errorf("%q: %d", text, err)
	}
	isWrong(t, text, 0, err)
	return err
}

// P9.1: of many texts Parse tells what another reader tells.
func TestParseOfManyTexts(t *testing.T) {
	r := source(5)
	counts := map[api.Errno]int{}
	for range 5000 {
		counts[isAsRead(t, someText(r))]++
	}
	for _, err := range []api.Errno{api.OK, api.ErrSceneWord, api.ErrSceneCount, api.ErrSceneNumber, api.ErrSceneTwice, api.ErrSceneLack, api.ErrSceneMat, api.ErrSceneFace, api.ErrSceneView} {
		if counts[err] < 20 {
			t.Errorf("error %d came %d times", err, counts[err])
		}
	}
}

// P1: any bytes may come in.
func TestParseOfAnyBytes(t *testing.T) {
	r := source(6)
	for range 3000 {
		text := make([]byte, r.IntN(60))
		for i := range text {
			text[i] = pick(r, byte(r.IntN(256)), byte(r.IntN(128)), "\n\t\r #-/.0123456789wavesyloktri"[r.IntN(28)])
		}
		isAsRead(t, string(text))
		isAsRead(t, plainText+string(text))
		i := r.IntN(len(plainText))
		isAsRead(t, plainText[:i]+string(text[:min(2, len(text))])+plainText[i+r.IntN(2):])
	}
}
