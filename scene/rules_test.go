package scene

import (
	"math"
	"reflect"
	"slices"
	"strings"
	"testing"

	"penumbra/api"
)

// given are scenes that may be and ones that no text says: without lists, with too long ones, with numbers that are not canonical, with kinds, materials and sides that are none.
func given() []api.Scene {
	all := []api.Scene{plain(), rich(), limit(), {}, {Waves: []api.Rat{}, Mats: []api.Mat{}, Faces: []api.Face{}}, {Waves: make([]api.Rat, 3), Mats: make([]api.Mat, 3), Faces: make([]api.Face, 3)}}
	r := source(7)
	for range 20 {
		all = append(all, someScene(r))
	}
	for _, c := range faults() {
		sc := rich()
		c.make(&sc)
		all = append(all, sc)
	}
	for i := range 40 {
		sc := rich()
		for _, place := range placesOf(&sc) {
			*place = pick(r, append(writings(*place), pick(r, zeros()...), pick(r, great()...))...)
		}
		sc.W, sc.H, sc.Faces[i%3].Mat = -i, math.MinInt, -i
		sc.Mats[i%5].Kind = i - 20
		all = append(all, sc)
	}
	// Lists and numbers that are shared.
	limbs := list(2, 8, 9, 0)
	shared := api.Rat{Num: limbs[:1], Den: limbs[:2]}
	vals := []api.Rat{shared, {Num: limbs, Den: limbs[1:3]}}
	corner := api.Vec{X: vals[0], Y: vals[1], Z: shared}
	mats := []api.Mat{{Kind: api.MatGlass, Vals: vals, A: shared, B: vals[1]}, {Kind: api.MatLight, Vals: vals[:1], A: shared, B: shared}}
	return append(all, api.Scene{Waves: vals, Mats: mats, Faces: []api.Face{{Tri: api.Tri{A: corner, B: corner, C: corner}}, {Tri: api.Tri{A: corner}}}, Camera: api.Camera{Eye: corner, Look: corner, Half: shared}})
}

// listsOf are the lists of all numbers, up to their capacities.
func listsOf(l ...*api.Rat) [][]uint32 {
	var lists [][]uint32
	for _, r := range l {
		lists = append(lists, r.Num[:cap(r.Num)], r.Den[:cap(r.Den)])
	}
	return lists
}

// wholeOf is a scene whose lists go as far as their capacities.
func wholeOf(sc api.Scene) api.Scene {
	sc.Waves, sc.Mats, sc.Faces = sc.Waves[:cap(sc.Waves)], sc.Mats[:cap(sc.Mats)], sc.Faces[:cap(sc.Faces)]
	return sc
}

// padded answers the scene with lists inside greater ones, so that what is written beyond their ends is seen.
func padded(sc api.Scene) api.Scene {
	sc = copied(sc)
	extra := word("77/78")
	sc.Waves = append(sc.Waves, extra)[:len(sc.Waves)]
	sc.Mats = append(sc.Mats, mat(77, "78"))[:len(sc.Mats)]
	sc.Faces = append(sc.Faces, face(77, "1 2 3", "4 5 6", "7 8 9"))[:len(sc.Faces)]
	for i := range sc.Mats {
		sc.Mats[i].Vals = append(sc.Mats[i].Vals, extra)[:len(sc.Mats[i].Vals)]
	}
	for _, place := range placesOf(&sc) {
		place.Num = append(place.Num, 77)[:len(place.Num)]
		place.Den = append(place.Den, 78)[:len(place.Den)]
	}
	return sc
}

// askAll calls all that a scene may be handed to.
func askAll(sc api.Scene) ([]api.Rat, string, api.Errno) {
	var etas []api.Rat
	for m := -1; m < len(sc.Mats)+2 && m < 40; m++ {
		for bin := -1; bin < len(sc.Waves)+2 && bin < 10; bin++ {
			eta, _ := Eta(sc, m, bin)
			etas = append(etas, eta)
		}
	}
	return etas, Print(sc), Check(sc)
}

// R4: a scene that is handed in is not changed, neither is what lies beyond its lists' ends.
func TestArgumentsAreNotChanged(t *testing.T) {
	for i, sc := range given() {
		laid := padded(sc)
		whole := wholeOf(laid)
		kept := copied(whole)
		var limbs [][]uint32
		for _, l := range listsOf(placesOf(&whole)...) {
			limbs = append(limbs, slices.Clone(l))
		}
		askAll(laid)
		isScene(t, whole, kept, i)
		if now := listsOf(placesOf(&whole)...); !slices.EqualFunc(now, limbs, slices.Equal[[]uint32]) {
			t.Errorf("%d: %v, want %v", i, now, limbs)
		}
		direct := copied(sc)
		askAll(sc)
		isScene(t, sc, direct, i)
	}
}

// answersOf are numbers of answers, from texts and of scenes.
func answersOf(sc api.Scene) []*api.Rat {
	etas, _, _ := askAll(sc)
	var all []*api.Rat
	for i := range etas {
		all = append(all, &etas[i])
	}
	for _, text := range []string{plainText, richText, richText} {
		read, _, _ := Parse(text)
		all = append(all, placesOf(&read)...)
	}
	return all
}

// R4: what is written to a list of an answer, up to its capacity, is not seen in an argument, in its other lists or in another answer, nor the other way round.
func TestAnswersShareNoMemory(t *testing.T) {
	for i, sc := range given() {
		laid := padded(sc)
		kept := copied(laid)
		answers := listsOf(append(answersOf(laid), answersOf(laid)...)...)
		for j, l := range answers {
			for k := range l {
				l[k] = uint32(4711 + j)
			}
		}
		isScene(t, laid, kept, i)
		for _, l := range listsOf(placesOf(&laid)...) {
			clear(l)
		}
		for j, l := range answers {
			if !slices.Equal(l, run(len(l), uint32(4711+j))) {
				t.Errorf("%d: list %d is %v", i, j, l)
			}
		}
	}
}

// R4: the lists of a scene that was read share no memory either, up to their capacities.
func TestListsOfAScene(t *testing.T) {
	first, _, _ := Parse(richText)
	second, _, _ := Parse(richText)
	isScene(t, first, rich())
	marked := word("4711")
	for _, l := range [][]api.Rat{first.Waves, first.Mats[0].Vals, first.Mats[1].Vals, first.Mats[2].Vals, first.Mats[3].Vals, first.Mats[4].Vals} {
		kept := copied(first)
		before := append([]api.Rat{}, l...)
		whole := l[:cap(l)]
		for i := range whole {
			whole[i] = marked
		}
		copy(l, before)
		isScene(t, first, kept)
	}
	first.Waves[0], first.Mats[0].Vals[0], first.Mats[1].Vals[0], first.Mats[1].Kind, first.Faces[0].Mat = marked, marked, marked, 4711, 4711
	isScene(t, second, rich())
}

// R3: nothing is kept, so a call answers the same again, also if the first answer was written to.
func TestCallsAnswerTheSameAgain(t *testing.T) {
	for i, sc := range given() {
		_, text, err := askAll(sc)
		want, _, _ := askAll(sc)
		for _, l := range listsOf(answersOf(sc)...) {
			for k := range l {
				l[k] = 4711
			}
		}
		etas, again, errAgain := askAll(sc)
		if again != text || errAgain != err {
			t.Errorf("%d: got %q, %d, want %q, %d", i, again, errAgain, text, err)
		}
		for j, eta := range etas {
			isNumber(t, eta, want[j], i, j)
		}
		isParsed(t, richText, rich())
		isWrong(t, "waves", 1, api.ErrSceneCount)
		isParsed(t, plainText, plain())
	}
}

// R2: all numbers that are answered are canonical.
func TestAnswersAreCanonical(t *testing.T) {
	for i, sc := range given() {
		for j, number := range answersOf(sc) {
			isNumber(t, *number, ratOf(valueOf(*number)), i, j)
		}
	}
	r := source(8)
	for range 100 {
		sc, _, _ := Parse(Print(someScene(r)))
		for j, number := range placesOf(&sc) {
			isNumber(t, *number, ratOf(valueOf(*number)), j)
		}
	}
}

// R5: an empty list is a nil one.
func TestEmptyLists(t *testing.T) {
	for _, sc := range given() {
		other := copied(sc)
		for _, place := range placesOf(&other) {
			place.Num, place.Den = append([]uint32{}, place.Num...), append([]uint32{}, place.Den...)
		}
		other.Waves, other.Mats, other.Faces = append([]api.Rat{}, other.Waves...), append([]api.Mat{}, other.Mats...), append([]api.Face{}, other.Faces...)
		etas, text, err := askAll(sc)
		otherEtas, otherText, otherErr := askAll(other)
		if text != otherText || err != otherErr || !slices.EqualFunc(etas, otherEtas, equal) {
			t.Errorf("%v: %q, %d, want %q, %d", sc, otherText, otherErr, text, err)
		}
	}
}

// R2a: with an error the scene is Go's zero value.
func TestZeroScenes(t *testing.T) {
	for _, text := range []string{"", "x", plainText + "x", plainText + "light -1", strings.Repeat("#", api.MaxText+1), plainText + plainText, "waves 1\neye 1 2 3\nlook 0 0 1\nlight 1"} {
		sc, _, err := Parse(text)
		if err == api.OK || !reflect.DeepEqual(sc, api.Scene{}) {
			t.Errorf("%q: %v, %d", text, sc, err)
		}
	}
}

// P1: the calls end at long arguments, also at those that are long for limbs 0 alone.
func TestLongArguments(t *testing.T) {
	ones, nothing := run(300, top), run(1<<16, 0)
	for _, number := range []api.Rat{above(ones, ones[:170]), below(ones[:270], ones), above(nothing, ones), below(ones, nothing), above(nothing, nothing), above(append(slices.Clone(ones), nothing...), append(list(7), nothing...))} {
		sc := rich()
		sc.Waves[0], sc.Mats[1].A, sc.Mats[1].B, sc.Mats[0].Vals[0], sc.Faces[0].A.X, sc.Half, sc.Look.Z = number, number, number, number, number, number, number
		askAll(sc)
		isChecked(t, sc, api.ErrSceneSize)
	}
	isChecked(t, api.Scene{Waves: repeated(api.Rat{}, 1), Mats: []api.Mat{{Vals: repeated(word("1/3"), 1<<20)}}, Faces: repeated(api.Face{}, 1)}, api.ErrSceneSize)
	isWrong(t, "waves "+strings.Repeat("9", 9999)+"/"+strings.Repeat("7", 9999)+" "+strings.Repeat("3", 9999)+"/"+strings.Repeat("8", 9999)+" "+strings.Repeat("5", 20000), 0, api.ErrSceneLack)
	isWrong(t, strings.Repeat("light 1/3\n", api.MaxText/10), 0, api.ErrSceneLack)
	isWrong(t, plainText+strings.Repeat("light 1\n", 8000), 0, api.ErrSceneMany)
	isWrong(t, strings.Replace(plainText, "waves 1", "waves"+strings.Repeat(" 1", 30000), 1), 0, api.ErrSceneMany)
}
