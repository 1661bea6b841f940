package scene

import (
	"math"
	"math/big"
	"slices"
	"testing"

	"penumbra/api"
)

// change is what makes a scene that may be one that may not, and what Check tells of it.
type change struct {
	name string
	err  api.Errno
	make func(sc *api.Scene)
}

// P9.2: scenes that may be.
func TestCheckOfNamedScenes(t *testing.T) {
	for i, sc := range []api.Scene{plain(), rich(), limit()} {
		isChecked(t, sc, api.OK, i)
	}
	isChecked(t, api.Scene{}, api.ErrSceneMany)
}

func repeated[T any](item T, count int) []T { return slices.Repeat([]T{item}, count) }

// tooMany are changes that leave too few of something, or too many.
func tooMany() []change {
	return []change{
		{"no waves", api.ErrSceneMany, func(sc *api.Scene) { sc.Waves = nil }},
		{"empty waves", api.ErrSceneMany, func(sc *api.Scene) { sc.Waves = []api.Rat{} }},
		{"9 waves", api.ErrSceneMany, func(sc *api.Scene) { sc.Waves = repeated(word("1"), 9) }},
		{"many waves", api.ErrSceneMany, func(sc *api.Scene) { sc.Waves = repeated(api.Rat{}, 5000) }},
		{"33 materials", api.ErrSceneMany, func(sc *api.Scene) { sc.Mats = repeated(sc.Mats[0], 33) }},
		{"many materials", api.ErrSceneMany, func(sc *api.Scene) { sc.Mats = repeated(api.Mat{}, 5000) }},
		{"no faces", api.ErrSceneMany, func(sc *api.Scene) { sc.Faces = nil }},
		{"empty faces", api.ErrSceneMany, func(sc *api.Scene) { sc.Faces = []api.Face{} }},
		{"65 faces", api.ErrSceneMany, func(sc *api.Scene) { sc.Faces = repeated(sc.Faces[0], 65) }},
		{"many faces", api.ErrSceneMany, func(sc *api.Scene) { sc.Faces = repeated(api.Face{}, 5000) }},
	}
}

// P9.2: ErrSceneMany, if there are not 1 to 8 Waves, at most 32 Mats, 1 to 64 Faces.
func TestCheckOfHowMany(t *testing.T) {
	for _, sc := range []api.Scene{plain(), rich(), limit()} {
		for _, c := range tooMany() {
			other := copied(sc)
			c.make(&other)
			isChecked(t, other, c.err, c.name)
		}
	}
	for count := range 12 {
		sc := plain()
		sc.Waves, sc.Mats[0].Vals = repeated(word("2"), count), repeated(word("1"), count)
		isChecked(t, sc, map[bool]api.Errno{true: api.OK, false: api.ErrSceneMany}[count >= 1 && count <= 8], count)
	}
	for count := 1; count < 40; count++ {
		sc := plain()
		sc.Mats = repeated(sc.Mats[0], count)
		isChecked(t, sc, map[bool]api.Errno{true: api.OK, false: api.ErrSceneMany}[count <= 32], count)
	}
	for count := 1; count < 70; count++ {
		sc := plain()
		sc.Faces = repeated(sc.Faces[0], count)
		isChecked(t, sc, map[bool]api.Errno{true: api.OK, false: api.ErrSceneMany}[count <= 64], count)
	}
	// Without materials a face has none: there may be none of them as far as their number goes.
	sc := plain()
	sc.Mats = nil
	isChecked(t, sc, api.ErrSceneFace)
}

// great are numbers that are canonical, of 65 bits and more, and small ones of 64 at most.
func great() []api.Rat {
	return []api.Rat{
		above(list(0, 0, 1), list(1)), below(list(0, 0, 1), list(1)), above(list(1), list(0, 0, 1)), below(list(1), list(0, 0, 1)), above(list(1, 0, 1), list(1)),
		above(list(top, top, 1), list(2)), above(list(1), list(top, top, 1)), above(list(1, 0, 1), list(top, top)), below(list(top, top), list(1, 0, 1)),
		above(list(0, 0, 0, 1), list(1)), above(run(50, top), list(2)), below(list(2), run(50, top)), above(append(run(3000, 0), 1), list(1)),
	}
}

func small() []api.Rat {
	return []api.Rat{
		none(), word("1"), word("-1"), above(list(top, top), list(1)), below(list(top, top), list(1)), above(list(1), list(top, top)), below(list(1), list(top, top)),
		above(list(top-1, top), list(top, top)), below(list(top, top), list(top-1, top)), above(list(0, 1<<31), list(1)), above(list(1), list(0, 1<<31)), above(list(top), list(1)), above(list(0, 1), list(top)),
	}
}

// P9.2: ErrSceneSize, if the number at any place is not canonical or has more than 64 bits above or below, and never otherwise.
func TestCheckOfNumbersAtEachPlace(t *testing.T) {
	for _, sc := range []api.Scene{plain(), rich()} {
		for i := range placesOf(&sc) {
			other := copied(sc)
			place := placesOf(&other)[i]
			kept := *place
			wrong := append(great(), writings(kept)...)
			for _, zero := range zeros() {
				if !equal(zero, none()) {
					wrong = append(wrong, zero)
				}
			}
			wrong = append(wrong, above(list(2), list(2)), above(list(1, 0), list(1)), above(list(1), list(1, 0)), above(list(6), list(4)), below(nil, list(1)), above(nil, list(3)), above(list(3), list(0, 3)), above(list(0, 0, 1), list(0, 0, 1)))
			for _, number := range wrong {
				*place = number
				isChecked(t, other, api.ErrSceneSize, i, number)
			}
			for _, number := range small() {
				*place = number
				if err := Check(other); err == api.ErrSceneSize || err == api.ErrSceneMany {
					t.Errorf("%d, %v: got %d", i, number, err)
				}
			}
			*place = kept
			isChecked(t, other, api.OK, i)
		}
	}
}

// P9.2: Vals beyond the Waves belong to the scene's numbers, and materials of no kind too.
func TestCheckOfNumbersBesideOtherFaults(t *testing.T) {
	sc := plain()
	sc.Mats[0].Vals = append(sc.Mats[0].Vals, word("1"), api.Rat{})
	isChecked(t, sc, api.ErrSceneSize)
	sc.Mats[0].Vals[2] = word("1")
	isChecked(t, sc, api.ErrSceneMat)
	sc.Mats = append(sc.Mats, api.Mat{Kind: 99})
	isChecked(t, sc, api.ErrSceneSize)
	sc.Mats[1].A = none()
	isChecked(t, sc, api.ErrSceneSize)
	sc.Mats[1].B = none()
	isChecked(t, sc, api.ErrSceneMat)
	sc.Faces = append(sc.Faces, api.Face{Mat: -1})
	isChecked(t, sc, api.ErrSceneSize)
}

// with answers the plain scene with that many waves 1 and a second material, which is on its face.
func with(m api.Mat, waves ...string) api.Scene {
	sc := plain()
	sc.Waves, sc.Mats[0].Vals = nil, nil
	for _, wave := range waves {
		sc.Waves, sc.Mats[0].Vals = append(sc.Waves, word(wave)), append(sc.Mats[0].Vals, word("1"))
	}
	sc.Mats, sc.Faces[0].Mat = append(sc.Mats, m), 1
	return sc
}

const tiny = "1/18446744073709551615"

// P9.2: Vals of each kind at their bounds, and just beyond, at each bin.
func TestCheckOfVals(t *testing.T) {
	quarterOn, oneOn := "4611686018427387904/18446744073709551615", "18446744073709551615/18446744073709551614"
	may := map[int]string{
		api.MatDiffuse: "0 1/4 1/5 " + tiny + " 4611686018427387903/18446744073709551615",
		api.MatMirror:  "0 1 1/2 1/4 1/3 " + tiny + " 18446744073709551614/18446744073709551615",
		api.MatGlass:   "0 1 1/2 1/4 1/3 " + tiny + " 18446744073709551614/18446744073709551615",
		api.MatLight:   "0 1 2 1/4 1/3 18446744073709551615 " + tiny + " " + oneOn,
	}
	mayNot := map[int]string{
		api.MatDiffuse: "-1 -1/4 -" + tiny + " " + quarterOn + " 1/3 1 18446744073709551615",
		api.MatMirror:  "-1 -1/4 -" + tiny + " " + oneOn + " 2 18446744073709551615",
		api.MatGlass:   "-1 -1/4 -" + tiny + " " + oneOn + " 2 18446744073709551615",
		api.MatLight:   "-1 -1/4 -" + tiny + " -18446744073709551615",
	}
	for kind := range api.MatKinds {
		for place := range 3 {
			vals := numbers("0 0 0")
			m := api.Mat{Kind: kind, Vals: vals, A: none(), B: none()}
			if kind == api.MatGlass {
				m.A = word("1")
			}
			for _, val := range numbers(may[kind]) {
				vals[place] = val
				isChecked(t, with(m, "1", "2", "3"), api.OK, kind, place, val)
			}
			for _, val := range numbers(mayNot[kind]) {
				vals[place] = val
				isChecked(t, with(m, "1", "2", "3"), api.ErrSceneMat, kind, place, val)
			}
		}
	}
}

// P9.2: ErrSceneMat, if Vals are not as many as Waves.
func TestCheckOfHowManyVals(t *testing.T) {
	waves := slices.Repeat([]string{"1"}, 8)
	for kind := range api.MatKinds {
		for bins := 1; bins <= 8; bins++ {
			for count := range 20 {
				m := api.Mat{Kind: kind, Vals: repeated(word("1/8"), count), A: none(), B: none()}
				if kind == api.MatGlass {
					m.B = word("1")
				}
				want := api.ErrSceneMat
				if count == bins {
					want = api.OK
				}
				isChecked(t, with(m, waves[:bins]...), want, kind, bins, count)
			}
		}
	}
}

// P9.2: ErrSceneMat, if a Kind is none.
func TestCheckOfKinds(t *testing.T) {
	for _, kind := range []int{-1, 4, 5, -2, 100, 256, 1 << 32, math.MinInt, math.MaxInt} {
		isChecked(t, with(mat(kind, "0"), "1"), api.ErrSceneMat, kind)
		isChecked(t, with(api.Mat{Kind: kind, Vals: numbers("0"), A: word("1"), B: none()}, "1"), api.ErrSceneMat, kind)
	}
}

// P9.2: ErrSceneMat, if A or B is not 0 and it is no glass; of a glass, if Eta is not above 0 for some bin.
func TestCheckOfAAndB(t *testing.T) {
	for kind := range api.MatKinds {
		for _, number := range []string{"1", "-1", tiny, "-" + tiny, "18446744073709551615"} {
			first, second := mat(kind, "1/4"), mat(kind, "1/4")
			first.A, second.B = word(number), word(number)
			want := api.ErrSceneMat
			if kind == api.MatGlass && number[0] != '-' {
				want = api.OK
			}
			isChecked(t, with(first, "3"), want, kind, number)
			isChecked(t, with(second, "3"), want, kind, number)
		}
	}
	etas := []struct {
		a, b, waves string
		err         api.Errno
	}{
		{"0", "0", "1", api.ErrSceneMat}, {"1", "-1", "1", api.ErrSceneMat}, {"-1", "1", "1", api.ErrSceneMat}, {"-1", "4", "2", api.ErrSceneMat}, {"1", "-4", "2", api.ErrSceneMat},
		{"1", "-1", "2", api.OK}, {"-1", "1", "1/2", api.OK}, {"1", "-1", "1/2", api.ErrSceneMat}, {"-1", "1", "2", api.ErrSceneMat}, {"-1", "0", "2", api.ErrSceneMat}, {"0", "-1", "2", api.ErrSceneMat},
		{"-1", "1", "1/2 1/3 1", api.ErrSceneMat}, {"-1", "1", "1 1/2 1/3", api.ErrSceneMat}, {"-1", "1", "1/2 1 1/3", api.ErrSceneMat}, {"-1", "1", "1/2 2/3 1/3", api.OK},
		{"-1", "18446744073709551615", "4294967295", api.OK}, {"-1", "18446744073709551615", "4294967296", api.ErrSceneMat},
		{"-" + tiny, "1", "4294967295", api.OK}, {"-" + tiny, "1", "4294967296", api.ErrSceneMat}, {"-1/3", "4/3", "2", api.ErrSceneMat}, {"-1/3", "3/2", "2", api.OK},
	}
	for _, x := range etas {
		sc := with(glass(x.a, x.b, "0"), "1")
		sc.Waves = numbers(x.waves)
		sc.Mats[0].Vals, sc.Mats[1].Vals = repeated(word("1"), len(sc.Waves)), repeated(word("0"), len(sc.Waves))
		isChecked(t, sc, x.err, x)
	}
}

// P9.2: ErrSceneMat, if a wave is 0 or below, at each bin, also without a glass, and without materials.
func TestCheckOfWaves(t *testing.T) {
	for place := range 3 {
		for _, wave := range []string{"0", "-1", "-" + tiny, "-18446744073709551615"} {
			waves := []string{"1", "2", "3"}
			waves[place] = wave
			for _, m := range []api.Mat{mat(api.MatLight, "1 1 1"), glass("1", "0", "1 1 1"), glass("1", "1", "1 1 1")} {
				isChecked(t, with(m, waves...), api.ErrSceneMat, place, wave)
			}
			sc := with(mat(api.MatLight, "1 1 1"), waves...)
			sc.Mats = nil
			isChecked(t, sc, api.ErrSceneMat, place, wave)
		}
	}
	isChecked(t, with(glass("1", "1", "1 1"), tiny, "18446744073709551615"), api.OK)
}

// P9.2: each of several materials counts, and each of several faces.
func TestCheckOfEachMaterialAndFace(t *testing.T) {
	for i := range limit().Mats {
		sc := limit()
		sc.Mats[i].Vals[7] = word("-1")
		isChecked(t, sc, api.ErrSceneMat, i)
	}
	for i := range limit().Faces {
		sc := limit()
		sc.Faces[i].Mat = 32
		isChecked(t, sc, api.ErrSceneFace, i)
		sc.Faces[i].Mat, sc.Faces[i].C = 31, sc.Faces[i].B
		isChecked(t, sc, api.ErrSceneFace, i)
	}
}

// P9.2: ErrSceneFace, if a face's Mat is none, or its normal has no length.
func TestCheckOfFaces(t *testing.T) {
	for count := 1; count < 5; count++ {
		for _, at := range []int{-2, -1, 0, 1, 2, 3, 4, 5, 100, 1 << 32, math.MinInt, math.MaxInt} {
			sc := plain()
			sc.Mats, sc.Faces[0].Mat = repeated(sc.Mats[0], count), at
			want := api.ErrSceneFace
			if at >= 0 && at < count {
				want = api.OK
			}
			isChecked(t, sc, want, count, at)
		}
	}
	for corners, err := range map[[3]string]api.Errno{
		{"0 0 0", "1 0 0", "0 1 1"}: api.ErrSceneFace, {"0 0 0", "1 0 0", "2 0 0"}: api.ErrSceneFace, {"0 0 0", "0 0 0", "0 0 0"}: api.ErrSceneFace,
		{"1 2 3", "1 2 3", "4 5 7"}: api.ErrSceneFace, {"1 2 3", "4 5 7", "1 2 3"}: api.ErrSceneFace, {"4 5 7", "1 2 3", "1 2 3"}: api.ErrSceneFace,
		{"0 0 0", "1 0 0", "0 0 1"}: api.OK, {"0 0 0", "1 -2 0", "1 0 -1"}: api.OK, {"5 5 5", "5 4 5", "5 5 4"}: api.OK, {"0 0 0", "1 0 0", "0 3 4"}: api.OK,
		{"0 0 0", "1 0 0", "0 3 5"}: api.ErrSceneFace, {"0 0 0", "1 0 0", "0 " + tiny + " 0"}: api.OK,
	} {
		sc := plain()
		sc.Faces[0] = face(0, corners[0], corners[1], corners[2])
		isChecked(t, sc, err, corners)
		sc.Faces = []api.Face{plain().Faces[0], sc.Faces[0], plain().Faces[0]}
		isChecked(t, sc, err, corners)
	}
}

// P9.2: ErrSceneView, if Look has not the length 1, W or H is not 1 to 16, or Half is not above 0.
func TestCheckOfViews(t *testing.T) {
	for look, err := range map[string]api.Errno{
		"0 0 1": api.OK, "0 -1 0": api.OK, "1 0 0": api.OK, "3/5 0 -4/5": api.OK, "2/3 -1/3 2/3": api.OK, "-5/13 12/13 0": api.OK,
		"0 0 0": api.ErrSceneView, "0 0 2": api.ErrSceneView, "1 1 0": api.ErrSceneView, "1/2 1/2 0": api.ErrSceneView, "3/5 0 -3/5": api.ErrSceneView, "1 0 " + tiny: api.ErrSceneView,
		"18446744073709551614/18446744073709551615 0 0": api.ErrSceneView, "1 1 -1": api.ErrSceneView, "0 3 4": api.ErrSceneView, "1/3 1/3 1/3": api.ErrSceneView,
	} {
		sc := plain()
		sc.Look = words(look)
		isChecked(t, sc, err, look)
	}
	for _, side := range []int{-1, 0, 1, 2, 15, 16, 17, 18, 32, 256, -16, math.MinInt, math.MaxInt, 1<<32 + 1} {
		wide, high, want := plain(), plain(), api.ErrSceneView
		wide.W, high.H = side, side
		if side >= 1 && side <= 16 {
			want = api.OK
		}
		isChecked(t, wide, want, side)
		isChecked(t, high, want, side)
	}
	for half, err := range map[string]api.Errno{"0": api.ErrSceneView, "-1": api.ErrSceneView, "-" + tiny: api.ErrSceneView, tiny: api.OK, "1": api.OK, "18446744073709551615": api.OK} {
		sc := plain()
		sc.Half = word(half)
		isChecked(t, sc, err, half)
	}
	sc := plain()
	sc.Eye = words("-18446744073709551615 18446744073709551615 -" + tiny)
	isChecked(t, sc, api.OK)
}

// faults are changes of each kind that no other one undoes, the first kind last, so that they may be made one behind the other.
func faults() []change {
	first := []change{
		{"a long Look", api.ErrSceneView, func(sc *api.Scene) { sc.Look = words("0 0 2") }},
		{"no width", api.ErrSceneView, func(sc *api.Scene) { sc.W = 0 }},
		{"a great height", api.ErrSceneView, func(sc *api.Scene) { sc.H = 17 }},
		{"no Half", api.ErrSceneView, func(sc *api.Scene) { sc.Half = none() }},
		{"a face of no material", api.ErrSceneFace, func(sc *api.Scene) { sc.Faces[0].Mat = 99 }},
		{"a face of a material below 0", api.ErrSceneFace, func(sc *api.Scene) { sc.Faces[0].Mat = -1 }},
		{"a face without an area", api.ErrSceneFace, func(sc *api.Scene) { sc.Faces[len(sc.Faces)-1].B = sc.Faces[len(sc.Faces)-1].A }},
		{"a bright face", api.ErrSceneMat, func(sc *api.Scene) {
			sc.Mats[0] = api.Mat{Vals: repeated(word("1/2"), len(sc.Waves)), A: none(), B: none()}
		}},
		{"a kind that is none", api.ErrSceneMat, func(sc *api.Scene) { sc.Mats[0].Kind = 4 }},
		{"no glass that bends", api.ErrSceneMat, func(sc *api.Scene) { sc.Mats[0].A = word("-1") }},
		{"a wave of 0", api.ErrSceneMat, func(sc *api.Scene) { sc.Waves[0] = none() }},
		{"one Val too many", api.ErrSceneMat, func(sc *api.Scene) { sc.Mats[0].Vals = append(sc.Mats[0].Vals, none()) }},
		{"a great eye", api.ErrSceneSize, func(sc *api.Scene) { sc.Eye.Y = ratOf(new(big.Rat).SetInt(new(big.Int).Lsh(big.NewInt(1), 64))) }},
		{"a wave that is not canonical", api.ErrSceneSize, func(sc *api.Scene) { sc.Waves[0] = above(list(2), list(2)) }},
		{"a Half that is no number", api.ErrSceneSize, func(sc *api.Scene) { sc.Half = api.Rat{} }},
		{"a corner that is not canonical", api.ErrSceneSize, func(sc *api.Scene) { sc.Faces[0].C.Z = below(nil, list(1)) }},
	}
	return append(first, tooMany()...)
}

// P9.2: where two hold the first one of the document's order is told.
func TestOrderOfErrorsOfCheck(t *testing.T) {
	all := faults()
	for _, sc := range []api.Scene{plain(), rich(), limit()} {
		for i, late := range all {
			single := copied(sc)
			late.make(&single)
			isChecked(t, single, late.err, late.name)
			for _, early := range all[i:] {
				if late.err == api.ErrSceneMany {
					continue
				}
				both := copied(sc)
				late.make(&both)
				early.make(&both)
				isChecked(t, both, early.err, late.name, early.name)
			}
		}
	}
}
