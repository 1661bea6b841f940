package scene

import (
	"strconv"
	"strings"
	"testing"

	"penumbra/api"
)

// P9.1: a text that says a scene.
func TestParseOfNamedTexts(t *testing.T) {
	isParsed(t, plainText, plain())
	isParsed(t, richText, rich())
	isParsed(t, strings.TrimSuffix(richText, "\n"), rich())
	isParsed(t, limitText(), limit())
}

// limitText puts the text of limit together by hand.
func limitText() string {
	const most, small = "18446744073709551615", "1/18446744073709551557"
	lines := []string{"waves " + small + " " + most + " 2 3 4 5 6 7", "eye " + most + " -" + most + " -" + small, "look 0 1 0", "film 16 16 " + most + "/18446744073709551557"}
	rest := " 0 " + small + " 1/7 1/8 1/9 1/10 1/11"
	for i := range 8 {
		ab := most + " -" + small
		if i == 0 {
			ab = small + " 0"
		} else if i == 1 {
			ab = "0 " + small
		}
		lines = append(lines, "diffuse 1/4"+rest, "mirror 1"+rest, "glass "+ab+" 1"+rest, "light "+most+rest)
	}
	for i := range 64 {
		lines = append(lines, "tri "+strconv.Itoa(i%32)+" "+most+" 0 0 "+most+" 1/"+most+" 0 "+most+" 0 -"+most)
	}
	return strings.Join(lines, "\n")
}

// P9.1: lines that say unlike things stand in any order; materials and faces are numbered by the order of their lines.
func TestParseOfLinesInOtherOrders(t *testing.T) {
	lines := strings.Split(strings.TrimSuffix(richText, "\n"), "\n")
	said := func(order ...int) string {
		var text string
		for _, i := range order {
			text += lines[i] + "\n"
		}
		return text
	}
	isParsed(t, said(3, 2, 1, 0, 4, 5, 6, 7, 8, 9, 10, 11), rich())
	isParsed(t, said(9, 4, 10, 5, 11, 6, 0, 7, 1, 8, 2, 3), rich())
	isParsed(t, said(9, 10, 11, 4, 5, 6, 7, 8, 2, 1, 3, 0), rich())
	other := rich()
	other.Mats[0], other.Mats[3] = other.Mats[3], other.Mats[0]
	other.Faces[0], other.Faces[1], other.Faces[2] = other.Faces[2], other.Faces[0], other.Faces[1]
	isParsed(t, said(0, 1, 2, 3, 7, 5, 6, 4, 8, 11, 9, 10), other)
}

// kindsOfLines are the first words, what may stand behind them, and how many words must (or must at least).
type kindOfLine struct {
	first, rest string
	isOpen      bool
}

func kindsOfLines() []kindOfLine {
	return []kindOfLine{
		{"waves", "1", true}, {"eye", "0 0 5", false}, {"look", "0 0 -1", false}, {"film", "1 1 1/2", false},
		{"diffuse", "1/8", true}, {"mirror", "1/8", true}, {"light", "1/8", true}, {"glass", "1 2 1/8", true}, {"tri", "0 0 0 0 0 3 0 0 0 4", false},
	}
}

// P9.1: ErrSceneCount, if there are not as many words: of each first word.
func TestCountsOfWords(t *testing.T) {
	for _, kind := range kindsOfLines() {
		words := strings.Fields(kind.rest)
		for count := range 2*len(words) + 12 {
			var rest []string
			for i := range count {
				rest = append(rest, words[i%len(words)])
			}
			line := strings.Join(append([]string{kind.first}, rest...), " ")
			if count == len(words) || kind.isOpen && count > len(words) {
				isWrong(t, line, 0, api.ErrSceneLack)
			} else {
				isWrong(t, line, 1, api.ErrSceneCount)
				isWrong(t, "\n\n"+line+" # 1 1 1\n", 3, api.ErrSceneCount)
			}
		}
	}
}

// noNumbers are words that decimal.Parse does not read.
func noNumbers() []string {
	return []string{"x", "+1", "1.", ".5", "1/-2", "1/2/3", "1e5", "-", "--1", "1/0", "-0/00", "1,5", "0x1", "/1", "1/", "\x00", "1\xff", "é", "1\v", "\f1", "1\u00a0", "1\u0085", "2\u2003", strings.Repeat("1", api.MaxDigit+1)}
}

// P9.1: ErrSceneNumber, if a word is no number, at each place of each first word.
func TestWordsThatAreNoNumbers(t *testing.T) {
	for _, kind := range kindsOfLines() {
		for place := range strings.Fields(kind.rest) {
			for _, word := range noNumbers() {
				words := strings.Fields(kind.rest)
				words[place] = word
				isWrong(t, kind.first+" "+strings.Join(words, " "), 1, api.ErrSceneNumber)
			}
		}
		if kind.isOpen {
			isWrong(t, kind.first+" "+kind.rest+" 1 1 x", 1, api.ErrSceneNumber)
		}
	}
}

// P9.1: the longest number of a text, and one with a byte more.
func TestLongestNumber(t *testing.T) {
	long := "waves " + strings.Repeat("0", api.MaxDigit-1) + "1\n"
	isParsed(t, long+strings.TrimPrefix(plainText, "waves 1\n"), plain())
	isWrong(t, "waves "+strings.Repeat("0", api.MaxDigit)+"1\n", 1, api.ErrSceneNumber)
	isWrong(t, "waves "+strings.Repeat("9", api.MaxDigit)+"\n"+strings.TrimPrefix(plainText, "waves 1\n"), 0, api.ErrSceneSize)
}

// P9.1: WHOLEs are whole numbers from 0 to 1000000, however they are written.
func TestWholes(t *testing.T) {
	wholes := map[string]int{
		"0": 0, "-0": 0, "-0.0": 0, "0/7": 0, "-0/7": 0, "000": 0, "1": 1, "2/2": 1, "1.0": 1, "001": 1, "14/7": 2, "2.000": 2, "3": 3, "9/3": 3,
		"999999": 999999, "1000000": 1000000, "1000000.0": 1000000, "3000000/3": 1000000, "0001000000": 1000000, "65536": 65536, "131072/2": 65536,
	}
	for word, value := range wholes {
		// There are as many materials as it takes to tell which of them is meant.
		switch {
		case value == 0:
			isParsed(t, strings.Replace(plainText, "tri 0", "tri "+word, 1), plain())
		case value < 4:
			want := plain()
			want.Mats = append(want.Mats, want.Mats[0], want.Mats[0], want.Mats[0])
			want.Faces[0].Mat, want.W, want.H = value, value, value
			said := strings.Replace(strings.Replace(plainText, "film 1 1", "film "+word+" "+word, 1), "tri 0", "light 1\nlight 1\nlight 1\ntri "+word, 1)
			isParsed(t, said, want)
		default:
			isWrong(t, strings.Replace(plainText, "tri 0", "tri "+word, 1), 0, api.ErrSceneFace)
		}
		if value == 0 || value > api.MaxSide {
			isWrong(t, strings.Replace(plainText, "film 1", "film "+word, 1), 0, api.ErrSceneView)
			isWrong(t, strings.Replace(plainText, "film 1 1", "film 1 "+word, 1), 0, api.ErrSceneView)
		}
	}
}

// P9.1: numbers that are no WHOLEs.
func TestNumbersThatAreNoWholes(t *testing.T) {
	for _, word := range append(noNumbers(), "-1", "-1/2", "1/2", "1.5", "0.000001", "3/2", "1000001", "1000000.5", "2000001/2", "-1000000", "4294967296", "4294967297", "18446744073709551617", "340282366920938463463374607431768211456", "-4294967296", "1/4294967296", strings.Repeat("9", 2000)) {
		isWrong(t, "film "+word+" 1 1", 1, api.ErrSceneNumber)
		isWrong(t, "film 1 "+word+" 1", 1, api.ErrSceneNumber)
		isWrong(t, "tri "+word+" 0 0 0 0 3 0 0 0 4", 1, api.ErrSceneNumber)
	}
	want := plain()
	want.Half = word("4294967297")
	isParsed(t, strings.Replace(plainText, "film 1 1 1/2", "film 1 1 4294967297", 1), want)
}

// P9.1: numbers are read however they are written, as canonical ones.
func TestSpellingsOfNumbers(t *testing.T) {
	for i, line := range strings.Split(strings.TrimSuffix(richText, "\n"), "\n") {
		words := strings.Fields(line)
		for place := 1; place < len(words); place++ {
			for _, spelling := range spellings(valueWord(words[place])) {
				lines := strings.Split(richText, "\n")
				others := strings.Fields(line)
				others[place] = spelling
				lines[i] = strings.Join(others, " ")
				isParsed(t, strings.Join(lines, "\n"), rich())
			}
		}
	}
}

// P9.1: ErrSceneWord, if the first word is none of the table's.
func TestFirstWords(t *testing.T) {
	for _, first := range []string{"wavs", "wave", "wavess", "Waves", "WAVES", "x", "1", "-", "waves1", "waves,", "eyes", "Look", "films", "tris", "Tri", "triangle", "diffus", "glas", "lights", "mirrors", "\x00", "\xff", "\xffwaves", "waves\x00", "\vwaves", "waves\f", "\u00a0waves", "\ufeffwaves", "waves\u2003"} {
		for _, rest := range []string{"", " 1", " x", " 1 1 1", " 0 0 0 0 0 3 0 0 0 4", " waves 1"} {
			isWrong(t, first+rest, 1, api.ErrSceneWord)
			isWrong(t, plainText+"\t"+first+rest+"\n", 7, api.ErrSceneWord)
		}
	}
}

// P9.1: ErrSceneTwice, if one of the first four stood ahead; the others may stand as often as they like.
func TestLinesThatStandTwice(t *testing.T) {
	for i, kind := range kindsOfLines() {
		line := kind.first + " " + kind.rest + "\n"
		if i < 4 {
			isWrong(t, line+line, 2, api.ErrSceneTwice)
			isWrong(t, plainText+line, 7, api.ErrSceneTwice)
			isWrong(t, line+"\nlight 1\n# x\n\t"+line, 5, api.ErrSceneTwice)
		} else {
			isWrong(t, line+line+line, 0, api.ErrSceneLack)
		}
	}
}

// P9.1: within a line ErrSceneWord is told ahead of ErrSceneTwice, that ahead of ErrSceneCount, that ahead of ErrSceneNumber.
func TestOrderOfErrorsWithinALine(t *testing.T) {
	for i, kind := range kindsOfLines() {
		line, words := kind.first+" "+kind.rest+"\n", strings.Fields(kind.rest)
		short := kind.first + strings.Repeat(" x", len(words)-1) + "\n"
		isWrong(t, short, 1, api.ErrSceneCount)
		if !kind.isOpen {
			isWrong(t, kind.first+strings.Repeat(" x", len(words)+1), 1, api.ErrSceneCount)
		}
		if i < 4 {
			isWrong(t, line+short, 2, api.ErrSceneTwice)
			isWrong(t, line+kind.first, 2, api.ErrSceneTwice)
			isWrong(t, line+kind.first+strings.Repeat(" x", len(words)), 2, api.ErrSceneTwice)
		}
		isWrong(t, line+"x"+short, 2, api.ErrSceneWord)
	}
}

// P9.1: of several wrong lines the first one is told.
func TestFirstWrongLine(t *testing.T) {
	wrong := map[string]api.Errno{"wavs 1": api.ErrSceneWord, "waves 1": api.ErrSceneTwice, "tri": api.ErrSceneCount, "light x": api.ErrSceneNumber}
	for first, err := range wrong {
		for second := range wrong {
			isWrong(t, plainText+first+"\n"+second+"\n", 7, err)
			isWrong(t, "waves 1\n\n"+first+"\n"+second, 3, err)
		}
	}
}

// P9.1: the line's number is told from 1 on, lines without words too.
func TestNumbersOfLines(t *testing.T) {
	for _, ahead := range []string{"", "\n", "#\n", " \t\r\n", "# waves x\n", "  # x # y\n", "light 1\n", "light 1 # 2 x\n"} {
		for times := range 5 {
			isWrong(t, strings.Repeat(ahead, times)+"wavs 1", times*strings.Count(ahead, "\n")+1, api.ErrSceneWord)
			isWrong(t, strings.Repeat(ahead, times)+"wavs 1\n"+ahead, times*strings.Count(ahead, "\n")+1, api.ErrSceneWord)
		}
	}
	isWrong(t, strings.Repeat("\n", api.MaxText-1)+"x", api.MaxText, api.ErrSceneWord)
	// No other byte than 10 ends a line.
	isWrong(t, "light 1\r\v\f\u0085\u2028\x00tri", 1, api.ErrSceneNumber)
	isWrong(t, "light 1\rtri", 1, api.ErrSceneNumber)
	isWrong(t, "light 1\r\rtri\r\nx", 1, api.ErrSceneNumber)
	isWrong(t, "light 1\r\n\rtri\n", 2, api.ErrSceneCount)
}

// P9.1: ErrSceneLong, if there are more than MaxText bytes, ahead of all else, and none at just as many.
func TestLongestText(t *testing.T) {
	for _, filler := range []string{"\n", " ", "#", "x"} {
		padded := plainText + "#" + strings.Repeat(filler, api.MaxText-len(plainText)-1)
		isParsed(t, padded, plain())
		isWrong(t, padded+filler, 0, api.ErrSceneLong)
		isWrong(t, "x"+padded, 0, api.ErrSceneLong)
	}
	isWrong(t, strings.Repeat("x", api.MaxText), 1, api.ErrSceneWord)
	isWrong(t, strings.Repeat("x", api.MaxText+1), 0, api.ErrSceneLong)
	isWrong(t, strings.Repeat("\n", api.MaxText), 0, api.ErrSceneLack)
	isWrong(t, strings.Repeat(" ", 20*api.MaxText), 0, api.ErrSceneLong)
}

// P9.1: ErrSceneLack, if one of the first four stands nowhere, ahead of Check's error; also of a text without bytes.
func TestLackingLines(t *testing.T) {
	for _, text := range []string{"", "\n", " ", "#", "# waves 1\n", "\r\n\r\n"} {
		isWrong(t, text, 0, api.ErrSceneLack)
	}
	for i := range 4 {
		lines := strings.SplitAfter(plainText, "\n")
		lines[i] = ""
		isWrong(t, strings.Join(lines, ""), 0, api.ErrSceneLack)
		isWrong(t, strings.Join(lines[:4], ""), 0, api.ErrSceneLack)
		isWrong(t, strings.Join(lines, "")+"light -1\ndiffuse 2\ntri 7 0 0 0 0 0 0 0 0 0\n", 0, api.ErrSceneLack)
		isWrong(t, strings.Join(lines, "")+"wavs 1\n", 6, api.ErrSceneWord)
	}
}

// P9.1: behind all lines Check's error, with the line 0.
func TestErrorsOfCheckInTexts(t *testing.T) {
	swapped := func(old, other string) string { return strings.Replace(plainText, old, other, 1) }
	for text, err := range map[string]api.Errno{
		swapped("waves 1", "waves 1 1 1 1 1 1 1 1 1"):               api.ErrSceneMany,
		plainText + strings.Repeat("light 1\n", 32):                 api.ErrSceneMany,
		swapped("tri 0 0 0 0 3 0 0 0 4 0\n", ""):                    api.ErrSceneMany,
		plainText + strings.Repeat("tri 0 0 0 0 0 3 0 0 0 4\n", 64): api.ErrSceneMany,
		swapped("eye 0", "eye 18446744073709551616"):                api.ErrSceneSize,
		swapped("eye 0", "eye -1/18446744073709551616"):             api.ErrSceneSize,
		plainText + "diffuse 1/2":                                   api.ErrSceneMat,
		plainText + "light 1 1":                                     api.ErrSceneMat,
		swapped("waves 1", "waves 0"):                               api.ErrSceneMat,
		swapped("waves 1", "waves 1 2"):                             api.ErrSceneMat,
		plainText + "tri 0 0 0 0 1 0 0 0 1 1":                       api.ErrSceneFace,
		plainText + "tri 1 0 0 0 1 0 0 0 1 0":                       api.ErrSceneFace,
		swapped("light 1\n", ""):                                    api.ErrSceneFace,
		swapped("look 0 0 -1", "look 0 0 -2"):                       api.ErrSceneView,
		swapped("look 0 0 -1", "look 1 1 1"):                        api.ErrSceneView,
		swapped("film 1 1", "film 17 1"):                            api.ErrSceneView,
		swapped("film 1 1", "film 1 17"):                            api.ErrSceneView,
		swapped("1/2", "0"):                                         api.ErrSceneView,
		swapped("1/2", "-1/2"):                                      api.ErrSceneView,
		swapped("waves 1", "waves 0") + "tri 9 0 0 0 0 0 0 0 0 0":   api.ErrSceneMat,
	} {
		isWrong(t, text, 0, err)
	}
}

// P9.1: words are parted by bytes 9, 13 and 32, as many as there are, at a line's head and end too.
func TestBlanks(t *testing.T) {
	for _, blank := range []string{" ", "\t", "\r", "  ", "\t\t", " \r\t \r"} {
		text := strings.ReplaceAll(richText, " ", blank)
		isParsed(t, text, rich())
		isParsed(t, strings.ReplaceAll(text, "\n", blank+"\n"+blank), rich())
		isParsed(t, strings.ReplaceAll(text, "\n", "\r\n"), rich())
	}
	for c := range 256 {
		b := string([]byte{byte(c)})
		line := "waves 1" + b + "1\n" + strings.TrimPrefix(plainText, "waves 1\n")
		switch b {
		case "\t", "\r", " ":
			isWrong(t, line, 0, api.ErrSceneMat)
		case "\n":
			isWrong(t, line, 2, api.ErrSceneWord)
		case "#":
			isParsed(t, line, plain())
		case ".", "/", "0", "1", "2", "3", "4", "5", "6", "7", "8", "9":
			want := plain()
			want.Waves[0] = word("1" + b + "1")
			isParsed(t, line, want)
		default:
			isWrong(t, line, 1, api.ErrSceneNumber)
		}
	}
}

// P9.1: what stands behind a line's first # says nothing, also where it stands within a word, at the head, and alone.
func TestRemarks(t *testing.T) {
	isParsed(t, strings.ReplaceAll(richText, "\n", "#\n"), rich())
	isParsed(t, strings.ReplaceAll(richText, "\n", "#1 2 # x\n"), rich())
	isParsed(t, strings.ReplaceAll(richText, "\n", " # \xff\x00\n"), rich())
	isParsed(t, "#\n"+strings.ReplaceAll(richText, "\n", "\n#wavs\n # eye 1 2 3\n\t#\n"), rich())
	isWrong(t, "waves#1", 1, api.ErrSceneCount)
	isWrong(t, "wav#es 1", 1, api.ErrSceneWord)
	isWrong(t, "eye 1 2#3", 1, api.ErrSceneCount)
	isWrong(t, "waves 1/#2", 1, api.ErrSceneNumber)
	isWrong(t, "#waves 1\nwaves #1", 2, api.ErrSceneCount)
}
