package scene

import (
	"math"
	"slices"
	"strconv"
	"strings"
	"testing"

	"penumbra/api"
)

// P9.3: A and B over the square of the wave, for each bin.
func TestEtaOfNamedScenes(t *testing.T) {
	isEta(t, rich(), 1, 0, "1/2")
	isEta(t, rich(), 1, 1, "177/4")
	for bin, want := range []string{"2", "5/4", "10/9", "17/16", "5"} {
		sc := with(glass("1", "1", "0 0 0 0 0"), "1", "2", "-3", "4", "1/2")
		isEta(t, sc, 1, bin, want)
		sc.Mats[1].A = word("-1/3")
		isEta(t, sc, 1, bin, []string{"2/3", "-1/12", "-2/9", "-13/48", "11/3"}[bin])
		sc.Mats[1].B = none()
		isEta(t, sc, 1, bin, "-1/3")
		sc.Mats[1].A = none()
		isEta(t, sc, 1, bin, "0")
		sc.Mats[1].B = word("-36")
		isEta(t, sc, 1, bin, []string{"-36", "-9", "-4", "-9/4", "-144"}[bin])
	}
}

// P9.3: Eta asks for the material and the bin alone: the scene need not be one that may be.
func TestEtaOfScenesThatMayNotBe(t *testing.T) {
	sc := api.Scene{Waves: numbers("2 -1/2"), Mats: []api.Mat{{Kind: api.MatGlass, A: word("-7"), B: word("4")}}}
	isEta(t, sc, 0, 0, "-6")
	isEta(t, sc, 0, 1, "9")
	sc.Mats[0].Vals = repeated(api.Rat{}, 50)
	isEta(t, sc, 0, 0, "-6")
	sc.Waves, sc.Mats = repeated(word("1/3"), 100), repeated(glass("1", "2", "5 6 7"), 70)
	isEta(t, sc, 69, 99, "19")
	isNoEta(t, sc, 70, 99)
	isNoEta(t, sc, 69, 100)
}

// P9.3: 0 and false, if the material is not there or no glass, the bin not there, or its wave 0.
func TestEtaOfWhatIsLacking(t *testing.T) {
	sc := rich()
	for _, at := range []int{-1, -2, 0, 2, 3, 4, 5, 6, 100, math.MinInt, math.MaxInt, 1<<32 + 1} {
		isNoEta(t, sc, at, 0)
		isNoEta(t, sc, at, 1)
	}
	for _, bin := range []int{-1, -2, 2, 3, 100, math.MinInt, math.MaxInt, 1 << 32} {
		isNoEta(t, sc, 1, bin)
		isNoEta(t, sc, 0, bin)
	}
	for _, zero := range zeros() {
		sc.Waves[0] = zero
		isNoEta(t, sc, 1, 0)
		isEta(t, sc, 1, 1, "177/4")
	}
	for _, kind := range []int{-1, 0, 1, 3, 4, 1 << 32, math.MinInt} {
		sc := with(mat(kind, "1"), "1")
		sc.Mats[1].A = word("1")
		isNoEta(t, sc, 1, 0)
	}
	isNoEta(t, api.Scene{}, 0, 0)
	isNoEta(t, api.Scene{Mats: rich().Mats}, 1, 0)
	isNoEta(t, api.Scene{Waves: rich().Waves}, 1, 0)
}

// P9.3: Eta reads numbers that are not canonical.
func TestEtaOfOtherWritings(t *testing.T) {
	for _, a := range append(writings(word("-1/3")), word("-1/3")) {
		for _, b := range append(writings(word("5/2")), word("5/2")) {
			for _, wave := range append(writings(word("-3/4")), word("-3/4")) {
				sc := with(glass("1", "1", "0"), "1")
				sc.Mats[1].A, sc.Mats[1].B, sc.Waves[0] = a, b, wave
				isEta(t, sc, 1, 0, "37/9")
			}
		}
	}
	for _, zero := range zeros() {
		sc := with(glass("1", "1", "0"), "2")
		sc.Mats[1].A = zero
		isEta(t, sc, 1, 0, "1/4")
		sc.Mats[1].B = zero
		isEta(t, sc, 1, 0, "0")
		sc.Mats[1].A = word("3")
		isEta(t, sc, 1, 0, "3")
	}
}

func isPrinted(t *testing.T, sc api.Scene, want string) {
	t.Helper()
	if got := Print(sc); got != want {
		t.Errorf("got %q, want %q", got, want)
	}
}

// P9.3: scenes that may be, line by line.
func TestPrintOfNamedScenes(t *testing.T) {
	isPrinted(t, plain(), plainText)
	isPrinted(t, rich(), richText)
	isPrinted(t, limit(), limitText()+"\n")
}

// P9.3: scenes that may not be are printed too: without lists, with W, H and Mat below 0, with materials of no kind.
func TestPrintOfScenesThatMayNotBe(t *testing.T) {
	isPrinted(t, api.Scene{}, "waves\neye 0 0 0\nlook 0 0 0\nfilm 0 0 0\n")
	isPrinted(t, api.Scene{Waves: []api.Rat{}, Mats: []api.Mat{}, Faces: []api.Face{}}, "waves\neye 0 0 0\nlook 0 0 0\nfilm 0 0 0\n")
	isPrinted(t, api.Scene{Waves: make([]api.Rat, 2), Mats: make([]api.Mat, 2), Faces: make([]api.Face, 1)}, "waves 0 0\neye 0 0 0\nlook 0 0 0\nfilm 0 0 0\ndiffuse\ndiffuse\ntri 0 0 0 0 0 0 0 0 0 0\n")
	for _, n := range []int{-1, 0, 1, 17, -1000000, 1000001, math.MinInt, math.MaxInt, math.MinInt32, 1 << 32} {
		digits := strconv.Itoa(n)
		sc := plain()
		sc.W, sc.H, sc.Faces[0].Mat = n, n-1, n
		isPrinted(t, sc, "waves 1\neye 0 0 5\nlook 0 0 -1\nfilm "+digits+" "+strconv.Itoa(n-1)+" 1/2\nlight 1\ntri "+digits+" 0 0 0 3 0 0 0 4 0\n")
	}
	for _, kind := range []int{-1, 4, 5, math.MinInt, math.MaxInt, 1 << 32} {
		sc := plain()
		none := api.Mat{Kind: kind, Vals: numbers("1 2"), A: word("3"), B: word("4")}
		sc.Mats = append(slices.Insert(sc.Mats, 0, none), none, mat(api.MatMirror, "5 6 7"), none)
		isPrinted(t, sc, strings.Replace(plainText, "light 1\n", "light 1\nmirror 5 6 7\n", 1))
	}
	sc := plain()
	sc.Mats = []api.Mat{{Kind: api.MatGlass}, {Kind: api.MatLight}, {Kind: api.MatMirror, A: word("1"), B: word("2")}, {Kind: api.MatDiffuse, Vals: numbers("-1 -7/3"), A: word("1")}, glass("-1/2", "0", "")}
	isPrinted(t, sc, strings.Replace(plainText, "light 1\n", "glass 0 0\nlight\nmirror\ndiffuse -1 -7/3\nglass -1/2 0\n", 1))
	sc = plain()
	sc.Waves, sc.Faces = repeated(word("-1/2"), 300), repeated(sc.Faces[0], 300)
	isPrinted(t, sc, "waves"+strings.Repeat(" -1/2", 300)+plainText[7:len(plainText)-24]+strings.Repeat(plainText[len(plainText)-24:], 300))
}

// P9.3: numbers are printed as decimal.Print does it, at each place, also those that are not canonical.
func TestPrintOfNumbersAtEachPlace(t *testing.T) {
	// At these words of richText numbers stand, but for A and B of what is no glass: in the order of placesOf.
	var at []int
	words := strings.Fields(richText)
	skipped := 0
	for i, first := range words {
		switch first {
		case "film", "tri":
			skipped = map[string]int{"film": 3, "tri": 2}[first]
		case "waves", "eye", "look", "diffuse", "mirror", "light", "glass":
			skipped = 1
		}
		if skipped > 0 {
			skipped--
		} else {
			at = append(at, i)
		}
	}
	sc := rich()
	shown := 0
	for i, place := range placesOf(&sc) {
		for _, number := range append(great()[:9], append(writings(*place), above(list(6), list(4)), api.Rat{})...) {
			other := rich()
			*placesOf(&other)[i] = number
			got := strings.Fields(Print(other))
			if len(got) != len(words) {
				t.Fatalf("%d words", len(got))
			}
			changed := 0
			for j := range words {
				if got[j] != words[j] {
					changed++
				}
				if got[j] != words[j] && (!slices.Contains(at, j) || got[j] != valueOf(number).RatString()) {
					t.Errorf("%d, %v: %q", i, number, got[j])
				}
			}
			if changed > 1 {
				t.Errorf("%d, %v: %d words changed", i, number, changed)
			}
			shown += changed
		}
	}
	if shown < 11*len(at)-20 {
		t.Errorf("only %d changes of %d places are shown", shown, len(at))
	}
}
