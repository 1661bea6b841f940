package scene

import (
	"slices"

	"penumbra/api"
	"penumbra/rat"
	"penumbra/tri"
	"penumbra/vec"
)

// mostLimbs is how many limbs api.MaxBits bits take.
const mostLimbs = api.MaxBits / 32

// Check answers what is wrong with a scene, or OK.
func Check(sc api.Scene) api.Errno {
	switch {
	case !hasSizes(sc):
		return api.ErrSceneMany
	case !hasSmallNumbers(sc):
		return api.ErrSceneSize
	case !hasMats(sc):
		return api.ErrSceneMat
	case !hasFaces(sc):
		return api.ErrSceneFace
	case !hasView(sc.Camera):
		return api.ErrSceneView
	}
	return api.OK
}

func hasSizes(sc api.Scene) bool {
	return isWithin(len(sc.Waves), 1, api.MaxBins) && len(sc.Mats) <= api.MaxMats && isWithin(len(sc.Faces), 1, api.MaxFaces)
}

func isWithin(n, least, most int) bool { return n >= least && n <= most }

func hasSmallNumbers(sc api.Scene) bool {
	for _, mat := range sc.Mats {
		if !areSmall(mat.Vals...) || !areSmall(mat.A, mat.B) {
			return false
		}
	}
	for _, face := range sc.Faces {
		if !areSmall(coordinates(face.A, face.B, face.C)...) {
			return false
		}
	}
	return areSmall(sc.Waves...) && areSmall(coordinates(sc.Eye, sc.Look)...) && areSmall(sc.Half)
}

func areSmall(l ...api.Rat) bool { return !slices.ContainsFunc(l, isGreat) }

// isGreat answers whether a number is not canonical, or has too many bits. No canonical list ends in a limb 0, so its limbs alone tell; and ahead of rat.Check, so that long lists cost nothing.
func isGreat(a api.Rat) bool {
	return len(a.Num) > mostLimbs || len(a.Den) > mostLimbs || !rat.Check(a)
}

// coordinates are the numbers of all points, one behind the other.
func coordinates(l ...api.Vec) []api.Rat {
	var numbers []api.Rat
	for _, p := range l {
		numbers = append(numbers, p.X, p.Y, p.Z)
	}
	return numbers
}

func hasMats(sc api.Scene) bool {
	for i, mat := range sc.Mats {
		if len(mat.Vals) != len(sc.Waves) || !hasKind(mat) || mat.Kind == api.MatGlass && !bends(sc, i) {
			return false
		}
	}
	return !slices.ContainsFunc(sc.Waves, isNotAbove0)
}

func isNotAbove0(a api.Rat) bool { return rat.Sign(a) <= 0 }

// hasKind answers whether a material has a kind, and numbers that are of this kind.
func hasKind(mat api.Mat) bool {
	isClear := rat.Sign(mat.A) == 0 && rat.Sign(mat.B) == 0
	switch mat.Kind {
	case api.MatDiffuse:
		return isClear && areWithin(mat.Vals, rat.Of(1, 4))
	case api.MatMirror:
		return isClear && areWithin(mat.Vals, rat.Of(1, 1))
	case api.MatGlass:
		return areWithin(mat.Vals, rat.Of(1, 1))
	case api.MatLight:
		return isClear && !slices.ContainsFunc(mat.Vals, isBelow0)
	}
	return false
}

func isBelow0(a api.Rat) bool { return rat.Sign(a) < 0 }

// areWithin answers whether all numbers are from 0 to most.
func areWithin(l []api.Rat, most api.Rat) bool {
	return !slices.ContainsFunc(l, func(a api.Rat) bool { return isBelow0(a) || rat.Cmp(a, most) > 0 })
}

// bends answers whether Eta of a glass is above 0 for each bin.
func bends(sc api.Scene, mat int) bool {
	for bin := range sc.Waves {
		if eta, _ := Eta(sc, mat, bin); isNotAbove0(eta) {
			return false
		}
	}
	return true
}

func hasFaces(sc api.Scene) bool {
	return !slices.ContainsFunc(sc.Faces, func(face api.Face) bool {
		_, _, ok := tri.Unit(face.Tri)
		return !ok || !has(sc.Mats, face.Mat)
	})
}

func hasView(c api.Camera) bool {
	return rat.Same(vec.Dot(c.Look, c.Look), rat.Of(1, 1)) && isWithin(c.W, 1, api.MaxSide) && isWithin(c.H, 1, api.MaxSide) && rat.Sign(c.Half) > 0
}
