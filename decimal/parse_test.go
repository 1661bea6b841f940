package decimal

import (
	"math/big"
	"regexp"
	"slices"
	"strings"
	"testing"

	"penumbra/api"
)

// P4.1: the document's examples, and others: whole numbers, `.` and `/`, below 0, 0, above 0.
func TestParseOfNamedTexts(t *testing.T) {
	for text, want := range map[string]api.Rat{
		"-12": below(list(12), list(1)), "0.125": above(list(1), list(8)), "007/014": above(list(1), list(2)), "-0": none(),
		"0": none(), "1": above(list(1), list(1)), "7": above(list(7), list(1)), "-7": below(list(7), list(1)), "10": above(list(10), list(1)), "1234567890": above(list(1234567890), list(1)),
		"4294967295": above(list(top), list(1)), "4294967296": above(list(0, 1), list(1)), "-18446744073709551616": below(list(0, 0, 1), list(1)),
		"1.5": above(list(3), list(2)), "-1.5": below(list(3), list(2)), "0.1": above(list(1), list(10)), "-0.3": below(list(3), list(10)), "12.34": above(list(617), list(50)), "3.0": above(list(3), list(1)),
		"1/2": above(list(1), list(2)), "-1/2": below(list(1), list(2)), "6/4": above(list(3), list(2)), "-6/3": below(list(2), list(1)), "5/1": above(list(5), list(1)), "4/4": above(list(1), list(1)),
		"12/18446744073709551616": above(list(3), list(0, 1<<30)), "-18446744073709551616/12": below(list(0, 1<<30), list(3)),
	} {
		isParsed(t, text, want)
	}
}

// P4.1: any number of noughts ahead, also ahead of the second digits, and behind a point's digits.
func TestParseOfNoughts(t *testing.T) {
	for _, n := range []int{0, 1, 2, 8, 9, 10, 17, 18, 19, 100, 3000} {
		more := noughts(n)
		isParsed(t, more+"7", above(list(7), list(1)))
		isParsed(t, "-"+more+"70", below(list(70), list(1)))
		isParsed(t, more+"1.25"+more, above(list(5), list(4)))
		isParsed(t, "-"+more+"0.5"+more, below(list(1), list(2)))
		isParsed(t, more+"7/"+more+"14", above(list(1), list(2)))
		isParsed(t, "-3/"+more+"1", below(list(3), list(1)))
	}
}

// P4.1: 0 has one canonical Rat, however it is written.
func TestParseOfZeros(t *testing.T) {
	for _, n := range []int{1, 2, 9, 10, 18, 19, 3000} {
		zeros := noughts(n)
		for _, text := range []string{zeros, zeros + ".0", "0." + zeros, zeros + "." + zeros, zeros + "/1", zeros + "/07", zeros + "/" + strings.Repeat("9", n)} {
			isParsed(t, text, none())
			isParsed(t, "-"+text, none())
		}
	}
}

// P4.1: how many digits stand behind the point says the denominator.
func TestParseOfPlacesBehindThePoint(t *testing.T) {
	for n := range 200 {
		value := new(big.Rat).SetFrac(big.NewInt(3), powerOfTen(n+1))
		isParsed(t, "0."+noughts(n)+"3", ratOf(value))
		isParsed(t, "-2."+noughts(n)+"3", ratOf(value.Neg(value.Add(value, big.NewRat(2, 1)))))
	}
}

// P4.1
func TestParseRefusesOtherTexts(t *testing.T) {
	for _, text := range []string{
		"", "-", "+", ".", "/", "-.", "-/", "--", "+1", "1.", ".5", "1/-2", "1/2/3", "1e5",
		"1/", "/2", "-1.", "-.5", "-1/", "-/2", "./", "/.", "1..2", "1//2", "1./2", "1/.2", "1.2/3", "1/2.3", "1.2.3", "1.2.", "1/2/", ".1.2", "/1/2",
		"--1", "1-", "1-2", "-1-", "1.-2", "1.2-", "1/2-", "-+1", "+-1", "1+", "1+2", "1.+2", "1/+2", "1/--2", "-1/-2", "−1",
		" 1", "1 ", "1 2", "- 1", "1 .2", "1. 2", "1 /2", "1/ 2", " ", "\t1", "1\n", "\n1", "1\r\n", "\x001", "1\x00", "1\x00/2", "1_000", "1,5", "1'000", "0x10", "1E5", "1e-5", "inf", "NaN", "abc", "a", "1a", "a1", "1/a", "1.a",
		"\xff", "1\xff", "1/\xff2", "\xef\xbb\xbf1", "١", "1٢", "１２", "1/２", "½", "2²", "1/0/0", "1.0/0", "1/0.0", "-1/-0", "/0", "0/",
	} {
		isRefused(t, text, api.ErrNumForm)
	}
}

// P4.1: of all bytes digits alone may stand at any place, and `-`, `.` and `/` at theirs.
func TestParseOfEachByte(t *testing.T) {
	const text = "12/34"
	for b := range 256 {
		c := byte(b)
		for place := range len(text) + 1 {
			more := text[:place] + string([]byte{c}) + text[place:]
			_, e := Parse(more)
			if want := '0' <= c && c <= '9' || c == '-' && place == 0; (e == api.OK) != want {
				t.Errorf("Parse %q: %d", more, e)
			}
			if place < len(text) {
				other := text[:place] + string([]byte{c}) + text[place+1:]
				_, e := Parse(other)
				isDigit := '0' <= c && c <= '9'
				if want := isDigit || c == '-' && place == 0 || (c == '.' || c == '/') && place == 2; (e == api.OK) != want {
					t.Errorf("Parse %q: %d", other, e)
				}
			}
		}
	}
}

// form is a number's text, as the document's section Words says.
var form = regexp.MustCompile(`^(-?)([0-9]+)(?:([./])([0-9]+))?$`)

// parsed says what Parse must answer of a text that is not too long, by another reckoner.
func parsed(t *testing.T, text string) (api.Rat, api.Errno) {
	t.Helper()
	found := form.FindStringSubmatch(text)
	if found == nil {
		return none(), api.ErrNumForm
	}
	num, den := found[2], big.NewInt(1)
	switch found[3] {
	case ".":
		num += found[4]
		den = powerOfTen(len(found[4]))
	case "/":
		den = bigDigits(t, found[4])
	}
	if den.Sign() == 0 {
		return none(), api.ErrNumZero
	}
	value := new(big.Rat).SetFrac(bigDigits(t, num), den)
	if found[1] == "-" {
		value.Neg(value)
	}
	return ratOf(value), api.OK
}

func isAsParsed(t *testing.T, text string) {
	t.Helper()
	want, wanted := parsed(t, text)
	if got, e := Parse(text); e != wanted || !equal(got, want) {
		t.Errorf("Parse %q: got %v, %d, want %v, %d", short(text), got, e, want, wanted)
	}
}

// P4.1: all texts of up to six of some bytes.
func TestParseOfShortTexts(t *testing.T) {
	texts := []string{""}
	for range 6 {
		var longer []string
		for _, text := range texts {
			for _, c := range "-./+057" {
				longer = append(longer, text+string(c))
			}
			isAsParsed(t, text)
		}
		texts = longer
	}
	for _, text := range texts {
		isAsParsed(t, text)
	}
}

// P4.1: numbers of each count of digits, then of many.
func TestParseOfManyTexts(t *testing.T) {
	r := source(1)
	for n := range 300 {
		for range 4 {
			head, tail := someDigits(r, n+1), someDigits(r, 1+r.IntN(n+1))
			for _, sign := range []string{"", "-"} {
				isAsParsed(t, sign+head)
				isAsParsed(t, sign+head+"."+tail)
				isAsParsed(t, sign+head+"/"+tail)
				isAsParsed(t, sign+tail+"."+head)
				isAsParsed(t, sign+tail+"/"+head)
			}
		}
	}
	for _, n := range []int{1000, 4607, 4608, 4609, 9000, 9998} {
		head, tail := someDigits(r, n), someDigits(r, n)
		for _, text := range []string{head, "-" + head + tail, head + "." + tail, "-7." + tail, "-" + head + "/" + tail, "12/" + tail} {
			isAsParsed(t, text)
		}
	}
}

// P4.1: a second number that is 0, also written with many noughts; a wrong form goes ahead of it.
func TestParseRefusesDivisorsZero(t *testing.T) {
	for _, n := range []int{1, 2, 3, 8, 9, 10, 18, 19, 1000, api.MaxDigit - 3} {
		for _, head := range []string{"1", "0", "-1", "-0"} {
			isRefused(t, head+"/"+noughts(n), api.ErrNumZero)
		}
	}
	isRefused(t, strings.Repeat("9", 5000)+"/0", api.ErrNumZero)
	isParsed(t, "1/"+noughts(api.MaxDigit-3)+"1", above(list(1), list(1)))
	for _, text := range []string{"/0", "1/0 ", "1/0/", "1.0/0", "+1/0", "1/-0", " 1/0", "1/0.0"} {
		isRefused(t, text, api.ErrNumForm)
	}
}

// P4.1: texts of just as many bytes as there may be are read, and told of their form; longer ones are too long, whatever they hold.
func TestParseOfLongTexts(t *testing.T) {
	r := source(2)
	long := someDigits(r, api.MaxDigit)
	half := long[:api.MaxDigit/2]
	for _, text := range []string{
		long, "-" + long[1:], long[:api.MaxDigit-2] + ".5", "-0." + long[3:], "3/" + long[2:], half + "/" + half[1:], half + "." + half[1:], noughts(api.MaxDigit), noughts(api.MaxDigit-1) + "1", "-" + noughts(api.MaxDigit-1),
	} {
		if len(text) != api.MaxDigit {
			t.Fatalf("%s: %d bytes", short(text), len(text))
		}
		isAsParsed(t, text)
		isRefused(t, text+"0", api.ErrNumLong)
		isRefused(t, text+"/", api.ErrNumLong)
		isRefused(t, text[:api.MaxDigit-1]+"x", api.ErrNumForm)
		isRefused(t, text+"x", api.ErrNumLong)
		isRefused(t, "x"+text, api.ErrNumLong)
	}
	for _, part := range []string{"-", "+", ".", "/", " ", "\x00", "\xff", "1/0", "é"} {
		text := strings.Repeat(part, api.MaxDigit)
		isRefused(t, text[:api.MaxDigit], api.ErrNumForm)
		isRefused(t, text[:api.MaxDigit-1]+"00", api.ErrNumLong)
	}
	isRefused(t, "1/"+noughts(api.MaxDigit-2), api.ErrNumZero)
	isRefused(t, "1/"+noughts(api.MaxDigit-1), api.ErrNumLong)
	isRefused(t, noughts(1<<22), api.ErrNumLong)
}

// R1: any bytes at all.
func TestParseOfAnyBytes(t *testing.T) {
	r := source(3)
	for range 20000 {
		text := make([]byte, r.IntN(40))
		for i := range text {
			text[i] = slices.Concat([]byte("0123456789-./"), []byte{byte(r.IntN(256))})[r.IntN(14)]
		}
		isAsParsed(t, string(text))
	}
}
