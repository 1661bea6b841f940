package scene

import (
	"math/big"
	"math/rand/v2"
	"reflect"
	"slices"
	"strings"
	"testing"

	"penumbra/api"
)

const top = 1<<32 - 1

func list(limbs ...uint32) []uint32 { return limbs }

// run answers a list of n limbs that are all the same.
func run(n int, limb uint32) []uint32 { return slices.Repeat([]uint32{limb}, n) }

func above(num, den []uint32) api.Rat { return api.Rat{Num: num, Den: den} }

func below(num, den []uint32) api.Rat { return api.Rat{Neg: true, Num: num, Den: den} }

// none is the canonical 0.
func none() api.Rat { return above(nil, list(1)) }

// source answers what makes the same numbers in each run.
func source(seed uint64) *rand.Rand { return rand.New(rand.NewPCG(seed, 9)) }

func pick[T any](r *rand.Rand, l ...T) T { return l[r.IntN(len(l))] }

func bigOf(a []uint32) *big.Int {
	sum := new(big.Int)
	for _, limb := range slices.Backward(a) {
		sum.Lsh(sum, 32)
		sum.Or(sum, new(big.Int).SetUint64(uint64(limb)))
	}
	return sum
}

func limbsOf(n *big.Int) []uint32 {
	bytes := n.FillBytes(make([]byte, (n.BitLen()+31)/32*4))
	limbs := make([]uint32, len(bytes)/4)
	for i, b := range bytes {
		place := len(bytes) - 1 - i
		limbs[place/4] |= uint32(b) << (place % 4 * 8)
	}
	return limbs
}

// valueOf reads any Rat, by another reckoner.
func valueOf(r api.Rat) *big.Rat {
	den := bigOf(r.Den)
	if den.Sign() == 0 {
		return new(big.Rat)
	}
	value := new(big.Rat).SetFrac(bigOf(r.Num), den)
	if r.Neg {
		value.Neg(value)
	}
	return value
}

// ratOf answers the canonical Rat, by another reckoner.
func ratOf(value *big.Rat) api.Rat {
	return api.Rat{Neg: value.Sign() < 0, Num: limbsOf(new(big.Int).Abs(value.Num())), Den: limbsOf(value.Denom())}
}

func valueWord(text string) *big.Rat {
	value, ok := new(big.Rat).SetString(text)
	if !ok {
		panic("no number: " + text)
	}
	return value
}

func word(text string) api.Rat { return ratOf(valueWord(text)) }

// numbers are those that big.Rat reads, canonical ones, parted by blanks.
func numbers(text string) []api.Rat {
	var l []api.Rat
	for _, s := range strings.Fields(text) {
		l = append(l, word(s))
	}
	return l
}

func words(text string) api.Vec {
	l := numbers(text)
	if len(l) != 3 {
		panic("no Vec: " + text)
	}
	return api.Vec{X: l[0], Y: l[1], Z: l[2]}
}

func mat(kind int, vals string) api.Mat {
	return api.Mat{Kind: kind, Vals: numbers(vals), A: none(), B: none()}
}

func glass(a, b, vals string) api.Mat {
	return api.Mat{Kind: api.MatGlass, Vals: numbers(vals), A: word(a), B: word(b)}
}

func face(mat int, a, b, c string) api.Face {
	return api.Face{Tri: api.Tri{A: words(a), B: words(b), C: words(c)}, Mat: mat}
}

func camera(eye, look string, w, h int, half string) api.Camera {
	return api.Camera{Eye: words(eye), Look: words(look), W: w, H: h, Half: word(half)}
}

// plain is the scene of the document's example, and plainText its text.
func plain() api.Scene {
	return api.Scene{
		Waves: numbers("1"), Mats: []api.Mat{mat(api.MatLight, "1")},
		Faces: []api.Face{face(0, "0 0 0", "3 0 0", "0 4 0")}, Camera: camera("0 0 5", "0 0 -1", 1, 1, "1/2"),
	}
}

const plainText = "waves 1\neye 0 0 5\nlook 0 0 -1\nfilm 1 1 1/2\nlight 1\ntri 0 0 0 0 3 0 0 0 4 0\n"

// rich is a scene with each kind of material, whose numbers stand for their places, and richText its text.
func rich() api.Scene {
	return api.Scene{
		Waves: numbers("2 1/3"),
		Mats:  []api.Mat{mat(api.MatMirror, "1/2 1"), glass("-3/4", "5", "3/7 0"), mat(api.MatDiffuse, "1/4 1/5"), mat(api.MatLight, "12 13/6"), mat(api.MatDiffuse, "0 1/9")},
		Faces: []api.Face{
			face(4, "14 15 -16", "14 17 -16", "18 15 -16"),
			face(1, "1/10 -1/11 1/12", "23/30 8/33 3/4", "-17/30 19/33 5/12"),
			face(3, "19 0 0", "19 20 0", "19 0 -21"),
		},
		Camera: camera("-22 23/2 24", "2/3 -1/3 2/3", 16, 7, "25/26"),
	}
}

const richText = "waves 2 1/3\neye -22 23/2 24\nlook 2/3 -1/3 2/3\nfilm 16 7 25/26\nmirror 1/2 1\nglass -3/4 5 3/7 0\ndiffuse 1/4 1/5\nlight 12 13/6\ndiffuse 0 1/9\n" +
	"tri 4 14 15 -16 14 17 -16 18 15 -16\ntri 1 1/10 -1/11 1/12 23/30 8/33 3/4 -17/30 19/33 5/12\ntri 3 19 0 0 19 20 0 19 0 -21\n"

// limit is a scene that has as many of all as may be, and as great, and as small.
func limit() api.Scene {
	const most, small = "18446744073709551615", "1/18446744073709551557"
	sc := api.Scene{Waves: numbers(small + " " + most + " 2 3 4 5 6 7"), Camera: camera(most+" -"+most+" -"+small, "0 1 0", 16, 16, most+"/18446744073709551557")}
	firsts := [api.MatKinds]string{"1/4 0 " + small, "1 0 " + small, "1 0 " + small, most + " 0 " + small}
	for i := range api.MaxMats {
		kind := i % api.MatKinds
		sc.Mats = append(sc.Mats, mat(kind, firsts[kind]+" 1/7 1/8 1/9 1/10 1/11"))
		if kind == api.MatGlass {
			sc.Mats[i].A, sc.Mats[i].B = word(most), word("-"+small)
		}
	}
	sc.Mats[2].A, sc.Mats[2].B = word(small), none()
	sc.Mats[6].A, sc.Mats[6].B = none(), word(small)
	for i := range api.MaxFaces {
		sc.Faces = append(sc.Faces, face(i%api.MaxMats, most+" 0 0", most+" 1/"+most+" 0", most+" 0 -"+most))
	}
	return sc
}

// copied answers the same scene in new memory.
func copied(sc api.Scene) api.Scene {
	sc.Waves, sc.Mats, sc.Faces = slices.Clone(sc.Waves), slices.Clone(sc.Mats), slices.Clone(sc.Faces)
	for i := range sc.Mats {
		sc.Mats[i].Vals = slices.Clone(sc.Mats[i].Vals)
	}
	for _, place := range placesOf(&sc) {
		place.Num, place.Den = slices.Clone(place.Num), slices.Clone(place.Den)
	}
	return sc
}

// placesOf are all the places of a scene in which numbers stand.
func placesOf(sc *api.Scene) []*api.Rat {
	var l []*api.Rat
	of := func(points ...*api.Vec) {
		for _, p := range points {
			l = append(l, &p.X, &p.Y, &p.Z)
		}
	}
	for i := range sc.Waves {
		l = append(l, &sc.Waves[i])
	}
	for i := range sc.Mats {
		for j := range sc.Mats[i].Vals {
			l = append(l, &sc.Mats[i].Vals[j])
		}
		l = append(l, &sc.Mats[i].A, &sc.Mats[i].B)
	}
	for i := range sc.Faces {
		of(&sc.Faces[i].A, &sc.Faces[i].B, &sc.Faces[i].C)
	}
	of(&sc.Eye, &sc.Look)
	return append(l, &sc.Half)
}

// shapeOf is all of a scene but its numbers.
func shapeOf(sc api.Scene) []int {
	l := []int{len(sc.Waves), len(sc.Mats), len(sc.Faces), sc.W, sc.H}
	for _, m := range sc.Mats {
		l = append(l, m.Kind, len(m.Vals))
	}
	for _, f := range sc.Faces {
		l = append(l, f.Mat)
	}
	return l
}

func equal(a, b api.Rat) bool {
	return a.Neg == b.Neg && slices.Equal(a.Num, b.Num) && slices.Equal(a.Den, b.Den)
}

// isNumber holds against the wanted Rat limb by limb, so that what is not canonical is seen.
func isNumber(t *testing.T, got, want api.Rat, what ...any) {
	t.Helper()
	if !equal(got, want) {
		t.Errorf("%v: got %v, want %v", what, got, want)
	}
}

func isScene(t *testing.T, got, want api.Scene, what ...any) {
	t.Helper()
	if !slices.Equal(shapeOf(got), shapeOf(want)) {
		t.Errorf("%v: got %v, want %v", what, got, want)
		return
	}
	others := placesOf(&want)
	for i, place := range placesOf(&got) {
		isNumber(t, *place, *others[i], i, what)
	}
}

func isParsed(t *testing.T, text string, want api.Scene) {
	t.Helper()
	got, line, err := Parse(text)
	if line != 0 || err != api.OK {
		t.Errorf("%q: %d, %d", text, line, err)
		return
	}
	isScene(t, got, want, text)
}

func isWrong(t *testing.T, text string, line int, err api.Errno) {
	t.Helper()
	sc, gotLine, gotErr := Parse(text)
	if gotLine != line || gotErr != err || !reflect.DeepEqual(sc, api.Scene{}) {
		t.Errorf("%.300q: got %v, %d, %d, want %d, %d", text, sc, gotLine, gotErr, line, err)
	}
}

func isChecked(t *testing.T, sc api.Scene, want api.Errno, what ...any) {
	t.Helper()
	if got := Check(sc); got != want {
		t.Errorf("%v: got %d, want %d, of %v", what, got, want, sc)
	}
}

func isEta(t *testing.T, sc api.Scene, mat, bin int, want string) {
	t.Helper()
	eta, ok := Eta(sc, mat, bin)
	if !ok {
		t.Errorf("%d, %d: false, of %v", mat, bin, sc)
	}
	isNumber(t, eta, word(want), mat, bin, sc)
}

func isNoEta(t *testing.T, sc api.Scene, mat, bin int) {
	t.Helper()
	eta, ok := Eta(sc, mat, bin)
	if ok {
		t.Errorf("%d, %d: true, of %v", mat, bin, sc)
	}
	isNumber(t, eta, none(), mat, bin, sc)
}

// zeros are many ways to write 0.
func zeros() []api.Rat {
	return []api.Rat{
		{}, {Neg: true}, above(nil, list(1)), above(list(), list(1)), below(nil, list(1)), below(list(0), list(1)), above(list(0, 0), list(7, 0)),
		above(list(1), nil), below(list(1), nil), above(list(1), list()), below(list(6, 5), list(0)), above(list(4), list(0, 0, 0)), below(list(0, 0), list(0)),
		below(run(20, top), run(9, 0)), above(nil, run(9, top)),
	}
}

// writings are Rats that are all read as the number r, and are not canonical.
func writings(r api.Rat) []api.Rat {
	all := []api.Rat{
		{Neg: r.Neg, Num: append(slices.Clone(r.Num), 0), Den: r.Den},
		{Neg: r.Neg, Num: r.Num, Den: append(slices.Clone(r.Den), 0)},
		{Neg: r.Neg, Num: append(slices.Clone(r.Num), 0), Den: append(slices.Clone(r.Den), 0, 0)},
	}
	for _, factor := range [][]uint32{list(6), list(0, 1), list(top, top, 5)} {
		n, d := new(big.Int).Mul(bigOf(r.Num), bigOf(factor)), new(big.Int).Mul(bigOf(r.Den), bigOf(factor))
		all = append(all, api.Rat{Neg: r.Neg, Num: limbsOf(n), Den: limbsOf(d)}, api.Rat{Neg: r.Neg, Num: append(limbsOf(n), 0), Den: append(limbsOf(d), 0, 0)})
	}
	if valueOf(r).Sign() == 0 {
		for _, zero := range zeros() {
			if !equal(zero, none()) {
				all = append(all, zero)
			}
		}
	}
	return all
}

// spellings are words that say the number.
func spellings(value *big.Rat) []string {
	num, den := value.Num().String(), value.Denom().String()
	six := big.NewInt(6)
	all := []string{value.RatString(), num + "/" + den, "00" + num + "/0" + den, new(big.Int).Mul(value.Num(), six).String() + "/" + new(big.Int).Mul(value.Denom(), six).String()}
	if value.Sign() < 0 {
		all[2] = "-00" + num[1:] + "/0" + den
	}
	if digits := value.FloatString(6); valueWord(digits).Cmp(value) == 0 {
		all = append(all, digits)
	}
	if value.IsInt() {
		all = append(all, num+".0", num+"/1")
	}
	if value.Sign() == 0 {
		all = append(all, "-0", "-0.00", "0/5")
	}
	return all
}
