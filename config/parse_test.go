package config_test

import (
	"math/big"
	"math/rand/v2"
	"slices"
	"strings"
	"testing"

	"foghorn/api"
	"foghorn/config"
)

// cut is a text cut at each such byte.
func cut(text string, at byte) []string {
	l := []string{""}
	from := 0
	for i := range len(text) {
		if text[i] == at {
			l[len(l)-1] = text[from:i]
			l = append(l, "")
			from = i + 1
		}
	}
	l[len(l)-1] = text[from:]
	return l
}

// numberOf reads digits in numbers without an end.
func numberOf(word string) (int, bool) {
	n := new(big.Int)
	for i := range len(word) {
		if word[i] < '0' || word[i] > '9' {
			return 0, false
		}
		n.Mul(n, big.NewInt(10)).Add(n, big.NewInt(int64(word[i]-'0')))
	}
	if word == "" || len(word) > 1 && word[0] == '0' || n.Cmp(big.NewInt(maxNumber)) > 0 {
		return 0, false
	}
	return int(n.Int64()), true
}

// matcherOf looks at each place for each kind's sign, until name and value are such.
func matcherOf(word string) (api.Matcher, bool) {
	for place := range len(word) {
		for kind := range 4 {
			m := asks(kind, word[:place], word[place+1:])
			if isMatcher(m) && textOfMatcher(m) == word {
				return m, true
			}
		}
	}
	return api.Matcher{}, false
}

// read is what the chapter asks of Parse.
func read(text string) (api.Config, int, api.Errno) {
	lines := cut(text, 10)
	if lines[len(lines)-1] == "" {
		lines = lines[:len(lines)-1]
	}
	c, ahead := api.Config{}, "nothing"
	for i, line := range lines {
		words := cut(line, 32)
		why := api.ErrWord
		if slices.Contains(comes(ahead), words[0]) {
			why = readLine(&c, words)
		}
		if why != api.OK {
			return api.Config{}, i, why
		}
		ahead = words[0]
	}
	if ahead != "beat" {
		return api.Config{}, len(lines), api.ErrLack
	}
	return c, 0, api.OK
}

// comes is what may come behind a line.
func comes(ahead string) []string {
	switch ahead {
	case "nothing":
		return []string{"receiver"}
	case "receiver":
		return []string{"receiver", "route"}
	case "route":
		return []string{"route", "repeat"}
	case "repeat":
		return []string{"beat"}
	}
	return nil
}

func readLine(c *api.Config, words []string) api.Errno {
	switch words[0] {
	case "receiver":
		return readReceiver(c, words)
	case "route":
		return readRoute(c, words)
	case "repeat":
		return readWait(&c.Repeat, words)
	}
	return readWait(&c.Beat, words)
}

func readReceiver(c *api.Config, words []string) api.Errno {
	if len(c.Receivers) >= 4 {
		return api.ErrSize
	}
	if len(words) != 10 {
		return api.ErrLack
	}
	for _, other := range c.Receivers {
		if other.Name == words[1] {
			return api.ErrTwice
		}
	}
	var numbers []int
	for _, word := range words[2:] {
		n, ok := numberOf(word)
		if !ok {
			return api.ErrChar
		}
		numbers = append(numbers, n)
	}
	one := receiver(words[1], numbers...)
	if !isReceiver(one) {
		return api.ErrRange
	}
	c.Receivers = append(c.Receivers, one)
	return api.OK
}

func readRoute(c *api.Config, words []string) api.Errno {
	if len(c.Routes) >= 4 {
		return api.ErrSize
	}
	at := 1
	for at < len(words) && words[at] != "if" {
		at++
	}
	if at == len(words) {
		return api.ErrLack
	}
	one := api.Route{}
	for _, word := range words[1:at] {
		found := false
		for place, other := range c.Receivers {
			if other.Name == word {
				one.Chain, found = append(one.Chain, place), true
			}
		}
		if !found {
			return api.ErrNone
		}
	}
	for _, word := range words[at+1:] {
		m, ok := matcherOf(word)
		if !ok {
			return api.ErrChar
		}
		one.Asked = append(one.Asked, m)
	}
	if !isRoute(one, len(c.Receivers)) {
		return api.ErrRange
	}
	c.Routes = append(c.Routes, one)
	return api.OK
}

func readWait(put *int, words []string) api.Errno {
	if len(words) != 2 {
		return api.ErrLack
	}
	n, ok := numberOf(words[1])
	if !ok {
		return api.ErrChar
	}
	if n < 1 || n > maxWait {
		return api.ErrRange
	}
	*put = n
	return api.OK
}

func wantParse(t *testing.T, text string, want api.Config) {
	t.Helper()
	if got, line, why := config.Parse(text); !isSame(got, want) || line != 0 || why != api.OK {
		t.Errorf("Parse(%q) = %+v, %d, %d, want %+v", text, got, line, why, want)
	}
}

func wantNoParse(t *testing.T, text string, line int, want api.Errno) {
	t.Helper()
	if got, at, why := config.Parse(text); !isSame(got, api.Config{}) || got.Receivers != nil || got.Routes != nil || at != line || why != want {
		t.Errorf("Parse(%.2000q) = %+v, %d, %d, want line %d, %d, and no config", text, got, at, why, line, want)
	}
}

// wantRead holds Parse against what the chapter says, whatever the text; what is parsed may be, and is parsed again as it was printed.
func wantRead(t *testing.T, text string) {
	t.Helper()
	c, line, why := read(text)
	if why != api.OK {
		wantNoParse(t, text, line, why)
		return
	}
	wantParse(t, text, c)
	wantMay(t, c, true)
}

// wantWhy is wantRead with what is expected written out.
func wantWhy(t *testing.T, text string, line int, why api.Errno) {
	t.Helper()
	if why != api.OK {
		wantNoParse(t, text, line, why)
	}
	if _, at, is := read(text); at != line || is != why {
		t.Fatalf("the chapter does not say line %d, %d of %.2000q, but %d, %d", line, why, text, at, is)
	}
	wantRead(t, text)
}

func lines(text string) []string {
	l := cut(text, 10)
	return l[:len(l)-1]
}

// with is the text's lines with another one in the place of one of them.
func with(lines []string, at int, line string) string {
	l := slices.Clone(lines)
	l[at] = line
	return text(l...)
}

// Lines that are told in these tests.
const (
	lineA = "receiver a 1 8 0 3 5 10 2 4"
	lineB = "receiver b 1 8 0 3 5 10 2 4"
	lineC = "receiver c 1 8 0 3 5 10 2 4"
	lineD = "receiver d 1 8 0 3 5 10 2 4"
	lineE = "receiver e 1 8 0 3 5 10 2 4"

	toA    = "route a if"
	often  = "repeat 60"
	living = "beat 30"
)

// P13.2 and P13.3: the chapter's examples.
func TestExamples(t *testing.T) {
	wantParse(t, smallText, small())
	wantParse(t, text(lineA, toA, often, living), small())
	wantNoParse(t, "route a if", 0, api.ErrWord)
	wantNoParse(t, "route a if\n", 0, api.ErrWord)
	wantParse(t, fullText, full())
	wantPrint(t, full(), fullText)
}

// P13.2: the text's lines: a last one that is empty is none, each other one that is empty is wrong.
func TestParseLines(t *testing.T) {
	for _, c := range []struct {
		text string
		line int
		why  api.Errno
	}{
		{"", 0, api.ErrLack}, {"\n", 0, api.ErrWord}, {"\n\n", 0, api.ErrWord}, {"\n\n\n", 0, api.ErrWord},
		{"\r\n", 0, api.ErrWord}, {" ", 0, api.ErrWord}, {" \n", 0, api.ErrWord}, {"\x00", 0, api.ErrWord}, {"\xff\n", 0, api.ErrWord},
		{smallText, 0, api.OK}, {smallText[:len(smallText)-1], 0, api.OK},
		{smallText + "\n", 4, api.ErrWord}, {smallText + "\n\n", 4, api.ErrWord}, {smallText + " ", 4, api.ErrWord}, {smallText + " \n", 4, api.ErrWord}, {smallText + "\r\n", 4, api.ErrWord},
		{"\n" + smallText, 0, api.ErrWord}, {" " + smallText, 0, api.ErrWord}, {"\ufeff" + smallText, 0, api.ErrWord},
		{strings.Replace(smallText, "\n", "\n\n", 1), 1, api.ErrWord}, {strings.Replace(smallText, "\nrepeat", "\n\nrepeat", 1), 2, api.ErrWord}, {strings.Replace(smallText, "\nbeat", "\n\nbeat", 1), 3, api.ErrWord},
		{strings.ReplaceAll(smallText, "\n", "\r\n"), 0, api.ErrChar}, {strings.ReplaceAll(smallText, "\n", "\r"), 0, api.ErrLack}, {strings.ReplaceAll(smallText, "\n", "\v"), 0, api.ErrLack}, {strings.ReplaceAll(smallText, "\n", " "), 0, api.ErrLack}, {strings.ReplaceAll(smallText, "\n", "\u2028"), 0, api.ErrLack},
		{smallText[:len(smallText)-1] + " ", 3, api.ErrLack}, {smallText[:len(smallText)-1] + "\r\n", 3, api.ErrChar},
		{fullText, 0, api.OK}, {fullText[:len(fullText)-1], 0, api.OK}, {fullText + "\n", 10, api.ErrWord}, {fullText + fullText, 10, api.ErrWord}, {smallText + smallText, 4, api.ErrWord},
	} {
		wantWhy(t, c.text, c.line, c.why)
	}
	for _, all := range [][]string{lines(smallText), lines(fullText)} {
		for i := range all {
			wantWhy(t, text(slices.Insert(slices.Clone(all), i, "")...), i, api.ErrWord)
		}
	}
}

// P13.2: a text that ends behind each line, with a byte 10 and without it, and with one more.
func TestParseEnds(t *testing.T) {
	for _, all := range [][]string{lines(smallText), lines(fullText), {lineA, lineB, lineC, lineD, toA, "route d c b a if", often, living}} {
		for n := range len(all) {
			ahead := text(all[:n]...)
			wantWhy(t, ahead, n, api.ErrLack)
			wantWhy(t, strings.TrimSuffix(ahead, "\n"), n, api.ErrLack)
			wantWhy(t, ahead+"\n", n, api.ErrWord)
		}
		wantWhy(t, text(all...), 0, api.OK)
	}
}

// P13.2: all rows of up to six of some lines.
func TestParseRows(t *testing.T) {
	rows := [][]string{{}}
	some := []string{lineA, lineB, toA, "route b a if", often, living, ""}
	for from, n := 0, 0; n < 6; n++ {
		end := len(rows)
		for _, row := range rows[from:end] {
			for _, line := range some {
				rows = append(rows, append(slices.Clone(row), line))
			}
		}
		from = end
	}
	may := 0
	for _, row := range rows {
		wantRead(t, text(row...))
		if _, _, why := config.Parse(text(row...)); why == api.OK {
			may++
		}
	}
	// Of four lines a single one, of five two routes or two receivers, of six these and more.
	if may < 10 {
		t.Errorf("%d of %d rows are configs", may, len(rows))
	}
}

// P13.2: all lines of a config in each other order, and one of them once more.
func TestParseOrders(t *testing.T) {
	all := []string{lineA, lineB, toA, "route b if", often, living}
	for _, row := range orders(all) {
		is := slices.Index(row, often) == 4 && slices.Index(row, living) == 5 && slices.Index(row, toA) > 1 && slices.Index(row, "route b if") > 1
		_, _, why := config.Parse(text(row...))
		if (why == api.OK) != is {
			t.Errorf("Parse of %q: %d", row, why)
		}
		wantRead(t, text(row...))
	}
	for _, line := range all {
		for i := range len(all) + 1 {
			wantRead(t, text(slices.Insert(slices.Clone(all), i, line)...))
		}
	}
	wantWhy(t, text(lineA, lineA, toA, often, living), 1, api.ErrTwice)
	wantWhy(t, text(lineA, toA, toA, often, living), 0, api.OK)
	wantWhy(t, text(lineA, toA, often, often, living), 3, api.ErrWord)
	wantWhy(t, text(lineA, toA, often, living, living), 4, api.ErrWord)
	wantWhy(t, text(lineA, toA, lineB, often, living), 2, api.ErrWord)
	wantWhy(t, text(lineA, toA, living, often), 2, api.ErrWord)
	wantWhy(t, text(lineA, toA, often, toA, living), 3, api.ErrWord)
	wantWhy(t, text(lineA, toA, often, lineB, living), 3, api.ErrWord)
	wantWhy(t, text(lineA, often, living), 1, api.ErrWord)
	wantWhy(t, text(lineA, living), 1, api.ErrWord)
	wantWhy(t, text(lineA, toA, living), 2, api.ErrWord)
	wantWhy(t, text(toA, lineA, often, living), 0, api.ErrWord)
	wantWhy(t, text(often, living), 0, api.ErrWord)
	wantWhy(t, text(living), 0, api.ErrWord)
}

// orders are all orders of a row.
func orders(row []string) [][]string {
	if len(row) == 0 {
		return [][]string{nil}
	}
	var l [][]string
	for i, one := range row {
		for _, others := range orders(slices.Delete(slices.Clone(row), i, i+1)) {
			l = append(l, append([]string{one}, others...))
		}
	}
	return l
}

// P13.2: ErrWord of each first word that may not come at its place, whatever else is wrong with its line.
func TestParseFirstWords(t *testing.T) {
	words := []string{
		"", "if", "a", "x", "0", "fire", "hush", "\t", "\x00", "\xff", "ä", "nothing",
		"Receiver", "RECEIVER", "receive", "receivers", "receiver\t", "\treceiver", "receiver\r", "receiver=", "receiver,a", "recei ver", "receiverroute", "receiver\x00", "r",
		"Route", "ROUTE", "rout", "routes", "route\t", "\troute", "routE", "ro ute",
		"Repeat", "REPEAT", "repea", "repeats", "repeat\t", "\trepeat", "repeat\r", "repeat=60", "repeat60",
		"Beat", "BEAT", "bea", "beats", "beat\t", "\tbeat", "beat=30", "beat30", "be",
	}
	rest := []string{"", " ", " a", " a if", " 60", " 0", " x", " -1", " q 1 8 0 3 5 10 2 4", " if", " a a if", "  a if", " a 1 8 0 3 5 10 2 4", " if \xff", " 1099511627777"}
	all := lines(fullText)
	for at := range len(all) + 1 {
		ahead := text(all[:at]...)
		for _, word := range words {
			for _, more := range rest {
				wantWhy(t, ahead+word+more+"\n", at, api.ErrWord)
				wantWhy(t, ahead+word+more+"\n"+smallText, at, api.ErrWord)
				wantRead(t, ahead+word+more)
			}
		}
		for _, word := range []string{"receiver", "route", "repeat", "beat"} {
			for _, more := range rest {
				wantRead(t, ahead+word+more)
				wantRead(t, ahead+word+more+"\n"+smallText)
				wantWhy(t, ahead+" "+word+more, at, api.ErrWord)
			}
		}
	}
}

// P13.2: any line behind `beat`.
func TestParseBehindBeat(t *testing.T) {
	for _, line := range []string{"", " ", lineA, lineB, toA, often, living, "beat", "beat 0", "x", "receiver", "\x00", "#", "if", "end"} {
		wantWhy(t, smallText+line+"\n", 4, api.ErrWord)
		wantWhy(t, smallText+line+"\n"+living+"\n", 4, api.ErrWord)
		wantWhy(t, fullText+line+"\n", 10, api.ErrWord)
	}
}

// wantLast has nothing wrong ahead of its last line: what is told is that one's error, or, if it has none, that lines are lacking behind it.
func wantLast(t *testing.T, why api.Errno, lines ...string) {
	t.Helper()
	if why == api.OK {
		wantWhy(t, text(lines...), len(lines), api.ErrLack)
		return
	}
	wantWhy(t, text(lines...), len(lines)-1, why)
}

// wantAll has nothing wrong but at one line, or nothing at all.
func wantAll(t *testing.T, at int, why api.Errno, lines ...string) {
	t.Helper()
	if why == api.OK {
		at = 0
	}
	wantWhy(t, text(lines...), at, why)
}

// asReceiver has that line as the first receiver, behind others, and as the fifth one.
func asReceiver(t *testing.T, line string, why api.Errno) {
	t.Helper()
	wantLast(t, why, line)
	wantLast(t, why, lineA, line)
	wantLast(t, why, lineA, lineB, lineC, line)
	wantLast(t, api.ErrSize, lineA, lineB, lineC, lineD, line)
	wantAll(t, 1, why, lineA, line, toA, often, living)
}

// P13.2: how many words a receiver's line has, and what stands between two of them.
func TestParseReceiverByWords(t *testing.T) {
	words := strings.Split("receiver q 1 8 0 3 5 10 2 4 1 1 1 1", " ")
	for n := 1; n <= len(words); n++ {
		why := api.ErrLack
		if n == 10 {
			why = api.OK
		}
		asReceiver(t, strings.Join(words[:n], " "), why)
	}
	good := "receiver q 1 8 0 3 5 10 2 4"
	for _, line := range []string{good + " ", good + "  ", good + " x", good + " if", "receiver  q 1 8 0 3 5 10 2 4", strings.ReplaceAll(good, " ", "  "), "receiver", "receiver ", "receiver q"} {
		asReceiver(t, line, api.ErrLack)
	}
	for i := range len(good) {
		if good[i] == ' ' {
			asReceiver(t, good[:i]+" "+good[i:], api.ErrLack)
		}
	}
	for _, white := range []string{"\t", "\r", "\v", "\f", "\u00a0", "\u0085", "\u3000", "\x00", "_", ",", ""} {
		for i := 9; i < len(good); i++ {
			if good[i] == ' ' {
				asReceiver(t, good[:i]+white+good[i+1:], api.ErrLack)
			}
		}
	}
	// Ten words, of which two are parted by two blanks: one of them is empty.
	asReceiver(t, "receiver  1 8 0 3 5 10 2 4", api.ErrRange)
	asReceiver(t, "receiver q  8 0 3 5 10 2 4", api.ErrChar)
	asReceiver(t, "receiver q 1 8 0 3 5 10 2 ", api.ErrChar)
	asReceiver(t, good+"\t", api.ErrChar)
	asReceiver(t, good+"\r", api.ErrChar)
	asReceiver(t, "receiver \tq 1 8 0 3 5 10 2 4", api.ErrRange)
	asReceiver(t, "receiver q\t 1 8 0 3 5 10 2 4", api.ErrRange)
}

// P13.2: ErrTwice of the Name of each receiver ahead, ahead of what is wrong with its numbers.
func TestParseReceiverTwice(t *testing.T) {
	ahead := []string{lineA, lineB, lineC, lineD}
	for n := range 4 {
		for _, name := range []string{"a", "b", "c", "d", "aa", "A", "ab"} {
			at := strings.Index("abcd", name)
			twice := len(name) == 1 && at >= 0 && at < n
			for _, c := range []struct {
				rest string
				why  api.Errno
			}{
				{" 1 8 0 3 5 10 2 4", api.OK}, {" 2 9 1 4 6 11 3 5", api.OK}, {" 0 8 0 3 5 10 2 4", api.ErrRange}, {" x 8 0 3 5 10 2 4", api.ErrChar}, {" 1 8 0 3 5 10 2 x", api.ErrChar}, {" 01 8 0 3 5 10 2 4", api.ErrChar},
			} {
				why := c.why
				if name == "A" && why == api.OK {
					why = api.ErrRange
				}
				if twice {
					why = api.ErrTwice
				}
				wantLast(t, why, append(slices.Clone(ahead[:n]), "receiver "+name+c.rest)...)
			}
		}
	}
}

// P13.2: Names of receivers that may be and such that may not, and each of the 256 bytes in them. A Name with a blank in it is two words.
func TestParseReceiverByNames(t *testing.T) {
	for _, name := range goodNames() {
		if len(name) > 1 {
			asReceiver(t, "receiver "+name+" 1 8 0 3 5 10 2 4", api.OK)
		}
	}
	for _, name := range badNames() {
		if !strings.ContainsAny(name, " \n") {
			asReceiver(t, "receiver "+name+" 1 8 0 3 5 10 2 4", api.ErrRange)
			asReceiver(t, "receiver "+name+" 1 8 0 3 x 10 2 4", api.ErrChar)
		}
	}
	for b := range 256 {
		one := string([]byte{byte(b)})
		for _, name := range []string{one, "x" + one, one + "x", "x" + one + "y", "i" + one, one + "f", "abcdefg" + one} {
			wantRead(t, text("receiver "+name+" 1 8 0 3 5 10 2 4", "route "+name+" if", often, living))
			wantRead(t, text(lineA, "receiver "+name+" 1 8 0 3 5 10 2 4", toA, often, living))
		}
	}
}

// numbers are words of digits up to 2^40.
func numbers() []string {
	return []string{
		"0", "1", "2", "3", "4", "5", "6", "7", "8", "9", "10", "11", "99", "100", "101", "255", "256", "1000",
		"1048575", "1048576", "1048577", "1073741823", "1073741824", "1073741825", "2147483648", "4294967296", "4294967297", "1099511627775", "1099511627776",
	}
}

// noNumbers are words without a blank that are none.
func noNumbers() []string {
	return []string{
		"", "00", "01", "007", "010", "000", "01099511627776", "00000000000000000000000000000001",
		"1099511627777", "1099511627778", "1099511627786", "1099511628776", "2199023255552", "9999999999999", "10995116277760", "99999999999999",
		"9223372036854775806", "9223372036854775807", "9223372036854775808", "18446744073709551615", "18446744073709551616", "18446744073709551617", "18446744073709551624", "36893488147419103233", "79228162514264337593543950337", "340282366920938463463374607431768211457",
		strings.Repeat("1", 19), strings.Repeat("9", 19), strings.Repeat("1", 20), strings.Repeat("9", 21), strings.Repeat("1", 400), "1" + strings.Repeat("0", 308), "1" + strings.Repeat("0", 400),
		"-1", "+1", "-0", "+0", "-", "+", "--1", "+-1", "-9223372036854775808", "1-", "1+",
		"a", "x", "if", "0x1", "0b1", "0o1", "1x", "x1", "1a", "a1", "1_0", "_1", "1_", "1.0", "1.", ".1", "1e0", "1e1", "1E1", "1,0", "inf", "nan", "NaN", "0x", "1L", "1u", "1:", "/1", "1/",
		"１", "٣", "1１", "²", "½", "\t1", "1\t", "1\r", "\r1", "1\v", "\x001", "1\x00", "\xff", "1\xff", "\xb1", "\u00a01", "\u20031", "ä",
	}
}

// P13.2: words in the place of each number of a receiver: each that is none is ErrChar, ahead of a receiver that may not be.
func TestParseReceiverByNumbers(t *testing.T) {
	for place := range 8 {
		for _, name := range []string{"q", "if", "A", ""} {
			for _, word := range append(noNumbers(), numbers()...) {
				words := strings.Split("receiver "+name+" 1 1073741824 0 3 5 10 2 4", " ")
				words[2+place] = word
				line := strings.Join(words, " ")
				wantRead(t, text(line, "route q if", often, living))
				wantRead(t, text(lineA, line, toA, often, living))
				if !slices.Contains(numbers(), word) {
					wantWhy(t, text(lineA, line), 1, api.ErrChar)
				}
			}
			for b := range 256 {
				words := strings.Split("receiver "+name+" 1 1073741824 0 3 5 10 2 4", " ")
				words[2+place] = string([]byte{byte(b)})
				wantRead(t, text(lineA, strings.Join(words, " "), toA, often, living))
				words[2+place] += "1"
				wantRead(t, text(lineA, strings.Join(words, " "), toA, often, living))
				words[2+place] = "1" + string([]byte{byte(b)})
				wantRead(t, text(lineA, strings.Join(words, " "), toA, often, living))
			}
		}
	}
}

// P13.2: ErrRange of numbers that are such, of a receiver that may not be, written out; the number at each edge may be.
func TestParseReceiverByRange(t *testing.T) {
	for _, line := range []string{
		"receiver q 1 1 0 1 1 1 1 1", "receiver q 1048576 1048576 0 1 1 1 1 1", "receiver q 1 1073741824 0 1 1 1 1 1", "receiver q 1 1 1048576 1 1 1 1 1",
		"receiver q 1 1 0 100 1 1 1 1", "receiver q 1 1 0 1 100 1 1 1", "receiver q 1 1 0 1 1 1048576 1 1", "receiver q 1 1 0 1 1 1 100 1", "receiver q 1 1 0 1 1 1 1 1048576",
	} {
		asReceiver(t, line, api.OK)
	}
	for _, line := range []string{
		"receiver q 0 1 0 1 1 1 1 1", "receiver q 1048577 1048577 0 1 1 1 1 1", "receiver q 2 1 0 1 1 1 1 1", "receiver q 1 0 0 1 1 1 1 1", "receiver q 1 1073741825 0 1 1 1 1 1", "receiver q 1 1 1048577 1 1 1 1 1",
		"receiver q 1 1 0 0 1 1 1 1", "receiver q 1 1 0 101 1 1 1 1", "receiver q 1 1 0 1 0 1 1 1", "receiver q 1 1 0 1 101 1 1 1", "receiver q 1 1 0 1 1 0 1 1", "receiver q 1 1 0 1 1 1048577 1 1",
		"receiver q 1 1 0 1 1 1 0 1", "receiver q 1 1 0 1 1 1 101 1", "receiver q 1 1 0 1 1 1 1 0", "receiver q 1 1 0 1 1 1 1 1048577",
		"receiver q 0 0 0 0 0 0 0 0", "receiver q 1099511627776 1 0 1 1 1 1 1", "receiver q 1 1099511627776 0 1 1 1 1 1", "receiver q 1 1 0 1 1 1 1 1099511627776",
		"receiver if 1 1 0 1 1 1 1 1", "receiver Q 1 1 0 1 1 1 1 1", "receiver abcdefghi 1 1 0 1 1 1 1 1", "receiver  1 1 0 1 1 1 1 1", "receiver q1 1 1 0 1 1 1 1 1", "receiver q= 1 1 0 1 1 1 1 1",
	} {
		asReceiver(t, line, api.ErrRange)
	}
}

// P13.2: all of what may be wrong with a receiver's line at once, for which of it is told.
func TestParseReceiverPairs(t *testing.T) {
	ahead := []string{lineA, lineB, lineC, lineD}
	for n := range 5 {
		for _, more := range []string{"", " 1", " x", " "} {
			for _, name := range []string{"q", "a", "if", ""} {
				for _, number := range []string{"1", "x", "01", "0", "1099511627777"} {
					for _, every := range []string{"4", "x", "0", ""} {
						why := api.OK
						switch {
						case n == 4:
							why = api.ErrSize
						case more != "":
							why = api.ErrLack
						case name == "a" && n > 0:
							why = api.ErrTwice
						case number != "1" && number != "0" || every == "x" || every == "":
							why = api.ErrChar
						case name == "if" || name == "" || number == "0" || every == "0":
							why = api.ErrRange
						}
						line := "receiver " + name + " " + number + " 8 0 3 5 10 2 " + every + more
						wantLast(t, why, append(slices.Clone(ahead[:n]), line)...)
					}
				}
			}
		}
	}
	for _, line := range []string{"receiver", "receiver a", "receiver if", "receiver x x", lineA, lineE, "receiver e 1 8 0 3 5 10 2 4 ", "receiver e x 8 0 3 5 10 2 4", "receiver e 0 8 0 3 5 10 2 4"} {
		wantWhy(t, text(append(slices.Clone(ahead), line)...), 4, api.ErrSize)
		wantWhy(t, text(append(slices.Clone(ahead), line, toA, often, living)...), 4, api.ErrSize)
	}
}

// asRoute has that line as the first route of four receivers, behind others, and as the fifth one.
func asRoute(t *testing.T, line string, why api.Errno) {
	t.Helper()
	wantLast(t, why, lineA, lineB, lineC, lineD, line)
	wantLast(t, why, lineA, lineB, lineC, lineD, toA, line)
	wantLast(t, why, lineA, lineB, lineC, lineD, toA, toA, toA, line)
	wantLast(t, api.ErrSize, lineA, lineB, lineC, lineD, toA, toA, toA, toA, line)
	wantAll(t, 4, why, lineA, lineB, lineC, lineD, line, often, living)
}

// P13.2: routes' lines, and the error of each, written out.
func TestParseRoutes(t *testing.T) {
	for _, c := range []struct {
		line string
		why  api.Errno
	}{
		{"route a if", api.OK}, {"route d c b a if", api.OK}, {"route a b if a=", api.OK}, {"route b if a=db z! x^y w?", api.OK}, {"route c if if=if", api.OK}, {"route c if if? if? if? if?", api.OK},

		{"route", api.ErrLack}, {"route ", api.ErrLack}, {"route a", api.ErrLack}, {"route a b c d", api.ErrLack}, {"route a If", api.ErrLack}, {"route a IF", api.ErrLack}, {"route a iff", api.ErrLack}, {"route a if=", api.ErrLack}, {"route a i f", api.ErrLack},
		{"route a\tif", api.ErrLack}, {"route a if\t", api.ErrLack}, {"route a \tif", api.ErrLack}, {"route a if\r", api.ErrLack}, {"route x", api.ErrLack}, {"route a a", api.ErrLack}, {"route a=x", api.ErrLack}, {"route a b c d a x \xff", api.ErrLack}, {"route aif", api.ErrLack}, {"route a if\x00", api.ErrLack},

		{"route x if", api.ErrNone}, {"route A if", api.ErrNone}, {"route aa if", api.ErrNone}, {"route  if", api.ErrNone}, {"route  a if", api.ErrNone}, {"route a  if", api.ErrNone}, {"route a x if", api.ErrNone}, {"route x a if", api.ErrNone}, {"route a b c x if", api.ErrNone}, {"route a b c d x if", api.ErrNone},
		{"route a=x if", api.ErrNone}, {"route 0 if", api.ErrNone}, {"route 1 if", api.ErrNone}, {"route route if", api.ErrNone}, {"route e if", api.ErrNone}, {"route \ta if", api.ErrNone}, {"route a\t if", api.ErrNone}, {"route a\tb if", api.ErrNone}, {"route a,b if", api.ErrNone}, {"route iff if", api.ErrNone}, {"route \xff if", api.ErrNone},
		{"route x if x", api.ErrNone}, {"route x if if", api.ErrNone}, {"route x x if a= a= a= a= a=", api.ErrNone}, {"route a a x if", api.ErrNone}, {"route a b c d a x if \xff", api.ErrNone},

		{"route a if ", api.ErrChar}, {"route a if  ", api.ErrChar}, {"route a if a", api.ErrChar}, {"route a if if", api.ErrChar}, {"route a if if if", api.ErrChar}, {"route a if b if", api.ErrChar}, {"route a if a= if", api.ErrChar}, {"route a if a= ", api.ErrChar}, {"route a if  a=", api.ErrChar}, {"route a if a=  b=", api.ErrChar},
		{"route a if a=X", api.ErrChar}, {"route a if A=x", api.ErrChar}, {"route a if =x", api.ErrChar}, {"route a if a?x", api.ErrChar}, {"route a if a=b=", api.ErrChar}, {"route a if a=\t", api.ErrChar}, {"route a if a= b=\xff", api.ErrChar}, {"route a if abcdefghi=", api.ErrChar}, {"route a if a=123456789", api.ErrChar}, {"route a if a=\r", api.ErrChar},
		{"route if x", api.ErrChar}, {"route if if", api.ErrChar}, {"route if a", api.ErrChar}, {"route if ", api.ErrChar}, {"route a a if x", api.ErrChar}, {"route a b c d a if x", api.ErrChar}, {"route a if a= a= a= a= x", api.ErrChar}, {"route a if a= a= a= a= a= if", api.ErrChar}, {"route a if x a= a= a= a=", api.ErrChar}, {"route a b if c if", api.ErrChar},

		{"route if", api.ErrRange}, {"route if a=", api.ErrRange}, {"route a a if", api.ErrRange}, {"route a b a if", api.ErrRange}, {"route b a a if", api.ErrRange}, {"route a b c a if", api.ErrRange}, {"route a b c d a if", api.ErrRange}, {"route a b c d a b c d if", api.ErrRange}, {"route d d d d d if a=", api.ErrRange},
		{"route a if a= a= a= a= a=", api.ErrRange}, {"route a if a= b! c^ d? e=x", api.ErrRange}, {"route if a= a= a= a= a=", api.ErrRange}, {"route a if" + strings.Repeat(" a=", 100), api.ErrRange}, {"route" + strings.Repeat(" a", 100) + " if", api.ErrRange},
	} {
		asRoute(t, c.line, c.why)
	}
}

// P13.2: a Name of no receiver is that, however many receivers there are; theirs are found at their places, in any order.
func TestParseRouteByNames(t *testing.T) {
	names := []string{"d", "ab", "a", "abc"}
	ahead := ""
	for n, name := range names {
		ahead += "receiver " + name + " 1 8 0 3 5 10 2 4\n"
		for place, other := range append(names, "b", "abcd", "", "A", "x", "receiver") {
			line := ahead + "route " + other + " if\n" + often + "\n" + living + "\n"
			if place > n {
				wantWhy(t, line, n+1, api.ErrNone)
				continue
			}
			c := api.Config{Receivers: receivers(names[:n+1]...), Routes: []api.Route{route(chain(place))}, Repeat: 60, Beat: 30}
			wantParse(t, line, c)
		}
	}
	for _, row := range chains([]int{0, 1, 2, 3}, 4) {
		line := "route"
		for _, place := range row {
			line += " " + names[place]
		}
		c := api.Config{Receivers: receivers(names...), Routes: []api.Route{route(row)}, Repeat: 60, Beat: 30}
		if mayBe(c) {
			wantParse(t, ahead+text(line+" if", often, living), c)
		} else {
			wantWhy(t, ahead+text(line+" if", often, living), 4, api.ErrRange)
		}
	}
}

// P13.2: words behind `if` that are no matchers', at each place of one to six.
func TestParseRouteByMatchers(t *testing.T) {
	good := strings.Split("a=db z!eu-1 x^ w? v=", " ")
	bad := []string{"", "a", "if", "=", "a?x", "A=", "a=X", "a==", "a=b=c", "abcdefghi?", "a=123456789", "\xff", "a=\t", "ä=", "a＝", "5", "route"}
	for n := range 6 {
		for place := range n + 1 {
			for _, word := range bad {
				words := slices.Insert(slices.Clone(good[:n]), place, word)
				asRoute(t, "route a if "+strings.Join(words, " "), api.ErrChar)
				asRoute(t, "route a a if "+strings.Join(words, " "), api.ErrChar)
			}
		}
		why := api.OK
		if n > 4 {
			why = api.ErrRange
		}
		asRoute(t, strings.Join(append([]string{"route b if"}, good[:n]...), " "), why)
	}
	for b := range 256 {
		one := string([]byte{byte(b)})
		for _, word := range []string{one, "a" + one, "a" + one + "x", one + "=", one + "a=", "a" + one + "=x", "a=" + one, "a=x" + one, one + "a?"} {
			wantRead(t, text(lineA, "route a if "+word, often, living))
		}
	}
}

// P13.2: all of what may be wrong with a route's line at once, for which of it is told.
func TestParseRoutePairs(t *testing.T) {
	for n := range 5 {
		ahead := append([]string{lineA, lineB, lineC, lineD}, slices.Repeat([]string{toA}, n)...)
		for _, parts := range []string{" if", " If", " iff", ""} {
			for _, names := range []string{" a", " a b c d", "", " x", " a x", " a a", " a x a", " a b c d a"} {
				for _, asked := range []string{"", " a=", " x", " if", " a= x", " a= a= a= a=", " a= a= a= a= a=", " x a= a= a= a= a="} {
					// Behind no `if` at all a second one is the first one: all ahead of it are names.
					isIf := parts == " if"
					hasIf := isIf || asked == " if"
					unknown := strings.Contains(names, "x") || !isIf && parts != ""
					noMatcher := isIf && (strings.Contains(asked, "x") || asked == " if")
					wrong := names == "" || names == " a a" || names == " a b c d a" || isIf && strings.Count(asked, "=") > 4
					why := api.OK
					switch {
					case n == 4:
						why = api.ErrSize
					case !hasIf:
						why = api.ErrLack
					case unknown:
						why = api.ErrNone
					case noMatcher:
						why = api.ErrChar
					case wrong:
						why = api.ErrRange
					}
					wantLast(t, why, append(slices.Clone(ahead), "route"+names+parts+asked)...)
				}
			}
		}
	}
	ahead := text(lineA, toA, "route a if a=", toA, toA)
	for _, line := range []string{"route", "route a", "route x if", "route a if x", "route a a if", toA, "route if", "route  ", "route a if a= b= c= d= e="} {
		wantWhy(t, ahead+text(line), 5, api.ErrSize)
		wantWhy(t, ahead+text(line, often, living), 5, api.ErrSize)
	}
}

// asWaits has words behind `repeat`, and behind `beat`.
func asWaits(t *testing.T, rest string, why api.Errno) {
	t.Helper()
	wantLast(t, why, lineA, toA, "repeat"+rest)
	wantAll(t, 2, why, lineA, toA, "repeat"+rest, living)
	wantAll(t, 2, why, lineA, toA, "repeat"+rest, "beat"+rest)
	wantAll(t, 3, why, lineA, toA, often, "beat"+rest)
}

// P13.2: `repeat` and `beat`: how many words, what is no number, and what is none of 1 to 2^30; and two of these at once.
func TestParseWaits(t *testing.T) {
	for _, rest := range []string{"", "  ", " 1 2", " 1 ", "  1", " 1  2", " 0 0", " x y", " x ", " 1 2 3", " 01 1", " 1 x", " 1073741825 1", " \t \t", " 1 \t"} {
		asWaits(t, rest, api.ErrLack)
	}
	for _, word := range noNumbers() {
		asWaits(t, " "+word, api.ErrChar)
		asWaits(t, " "+word+" 1", api.ErrLack)
		asWaits(t, " "+word+" ", api.ErrLack)
	}
	for _, word := range numbers() {
		n, _ := numberOf(word)
		why := api.OK
		if n < 1 || n > maxWait {
			why = api.ErrRange
		}
		asWaits(t, " "+word, why)
		asWaits(t, " "+word+" "+word, api.ErrLack)
		asWaits(t, " "+word+" x", api.ErrLack)
	}
	for _, c := range []struct {
		word string
		why  api.Errno
	}{
		{"0", api.ErrRange}, {"1", api.OK}, {"1073741823", api.OK}, {"1073741824", api.OK}, {"1073741825", api.ErrRange}, {"1099511627776", api.ErrRange}, {"1099511627777", api.ErrChar}, {"00", api.ErrChar}, {"01", api.ErrChar}, {"", api.ErrChar},
	} {
		asWaits(t, " "+c.word, c.why)
	}
	for b := range 256 {
		one := string([]byte{byte(b)})
		for _, rest := range []string{one, " " + one, " 1" + one, " " + one + "1", one + "1", " 1" + one + "2"} {
			wantRead(t, text(lineA, toA, "repeat"+rest, living))
			wantRead(t, text(lineA, toA, often, "beat"+rest))
		}
	}
}

// P13.2: of two lines that are wrong the first one's number and error, whatever stands behind it, and no config beside it.
func TestParseTwoWrong(t *testing.T) {
	all := []string{lineA, lineB, lineC, toA, "route c b if a= b?", "route b if", often, living}
	wrong := []string{
		"", "x", "receiver", "route", "repeat", "beat", "receiver a 1 8 0 3 5 10 2 4", "receiver q x 8 0 3 5 10 2 4", "receiver q 0 8 0 3 5 10 2 4",
		"route x if", "route a if x", "route a a if", "repeat x", "repeat 0", "beat 01", "beat 1073741825", "receiver q 1 8 0 3 5 10 2 4", "route a if", "repeat 5", "beat 6", "Route a if",
	}
	for i := range all {
		for _, first := range wrong {
			one := with(all, i, first)
			wantRead(t, one)
			_, line, why := config.Parse(one)
			for j := i + 1; j < len(all); j++ {
				for _, second := range wrong {
					both := with(lines(one), j, second)
					wantRead(t, both)
					if why != api.OK && line < j {
						wantNoParse(t, both, line, why)
					}
				}
			}
		}
	}
}

// P13.2: a small text with each byte of it out, each of the 256 bytes in its place, and ahead of it; and a full one, with some bytes.
func TestParseEachByte(t *testing.T) {
	two := "receiver ab 1 8 0 3 5 10 2 4\n" + lineB + "\nroute b ab if a= z!5\nrepeat 60\nbeat 30\n"
	for at := range len(two) {
		wantRead(t, two[:at])
		wantRead(t, two[at:])
		wantRead(t, two[:at]+two[at+1:])
		for b := range 256 {
			one := string([]byte{byte(b)})
			wantRead(t, two[:at]+one+two[at+1:])
			wantRead(t, two[:at]+one+two[at:])
		}
	}
	for at := range len(fullText) {
		wantRead(t, fullText[:at])
		wantRead(t, fullText[:at]+fullText[at+1:])
		for _, one := range []string{" ", "\n", "0", "1", "9", "a", "f", "i", "=", "?", "-", "A", "\t", "\xff"} {
			wantRead(t, fullText[:at]+one+fullText[at+1:])
			wantRead(t, fullText[:at]+one+fullText[at:])
		}
	}
}

// P13.2 and P13.3: texts of configs by chance, as they are, and with some of their words and lines changed.
func TestParseByChance(t *testing.T) {
	r := source()
	for range 3000 {
		c := goodConfig(r)
		wantMay(t, c, true)
		printed, _ := config.Print(c)
		for range 5 {
			wantRead(t, changed(r, printed))
		}
	}
}

// changed has one word, or one line, out, twice, or in another one's place.
func changed(r *rand.Rand, text string) string {
	part := " "
	if r.IntN(2) == 0 {
		part = "\n"
	}
	words := strings.Split(text, part)
	i, j := r.IntN(len(words)), r.IntN(len(words))
	switch r.IntN(4) {
	case 0:
		words = slices.Delete(words, i, i+1)
	case 1:
		words = slices.Insert(words, i, words[j])
	case 2:
		words[i], words[j] = words[j], words[i]
	case 3:
		words[i] = words[j]
	}
	return strings.Join(words, part)
}

// P13.3: what is printed is parsed as it was; what is parsed may be, and printed and parsed again is the same. A text that is parsed is what is printed of it, but for the byte 10 at its end.
func TestAgain(t *testing.T) {
	r := source()
	for range 3000 {
		c := goodConfig(r)
		printed, why := config.Print(c)
		if why != api.OK {
			t.Fatalf("Print(%+v): %d", c, why)
		}
		wantParse(t, printed, c)
		wantParse(t, strings.TrimSuffix(printed, "\n"), c)
		parsed, _, _ := config.Parse(printed)
		wantRight(t, parsed, true)
		wantPrint(t, parsed, printed)
	}
}

// P13.2, R1 and R4: each answer's lists are its own: none shares memory with another one of it, or with another answer.
func TestListsOfItsOwn(t *testing.T) {
	c, _, _ := config.Parse(fullText)
	other, _, _ := config.Parse(fullText)
	for i := range c.Routes {
		c.Routes[i].Chain = append(c.Routes[i].Chain, 9)
		c.Routes[i].Asked = append(c.Routes[i].Asked, asks(3, "q", ""))
		for j := range c.Routes[i].Chain {
			c.Routes[i].Chain[j] = -5
		}
		for j := range c.Routes[i].Asked {
			c.Routes[i].Asked[j] = api.Matcher{}
		}
		for j := i + 1; j < len(c.Routes); j++ {
			if !isSameRoute(c.Routes[j], full().Routes[j]) {
				t.Fatalf("route %d is %+v behind a change of route %d", j, c.Routes[j], i)
			}
		}
	}
	c.Receivers = append(c.Receivers, named("q"))
	c.Receivers[0], c.Receivers[3] = named("r"), named("s")
	c.Routes = append(c.Routes, route(chain(0)))
	c.Routes[0] = api.Route{}
	if !isSame(other, full()) {
		t.Errorf("the other answer is %+v", other)
	}
	wantParse(t, fullText, full())
	wantPrint(t, full(), fullText)
}

// P1: long texts: of many lines, of many words, and of long words.
func TestParseLongTexts(t *testing.T) {
	long := 1 << 22
	for _, c := range []struct {
		text string
		line int
		why  api.Errno
	}{
		{strings.Repeat("\n", long), 0, api.ErrWord}, {strings.Repeat(" ", long), 0, api.ErrWord}, {strings.Repeat("a", long), 0, api.ErrWord}, {strings.Repeat("\xff\n", long), 0, api.ErrWord},
		{"receiver" + strings.Repeat(" ", long), 0, api.ErrLack}, {"receiver " + strings.Repeat("a", long) + " 1 8 0 3 5 10 2 4", 0, api.ErrRange}, {"receiver a 1 8 0 3 5 10 2 " + strings.Repeat("4", long), 0, api.ErrChar}, {"receiver a 1 8 0 3 5 10 2 " + strings.Repeat("0", long) + "4", 0, api.ErrChar},
		{strings.Repeat(lineA+"\n", long/32), 1, api.ErrTwice}, {lineA + "\n" + strings.Repeat(toA+"\n", long/16), 5, api.ErrSize}, {lineA + "\nroute" + strings.Repeat(" a", long) + " if", 1, api.ErrRange}, {lineA + "\nroute" + strings.Repeat(" a", long), 1, api.ErrLack}, {lineA + "\nroute" + strings.Repeat(" a", long) + " x if", 1, api.ErrNone},
		{lineA + "\nroute a if" + strings.Repeat(" a=", long/4), 1, api.ErrRange}, {lineA + "\nroute a if" + strings.Repeat(" if", long/4), 1, api.ErrChar}, {lineA + "\nroute a if a=" + strings.Repeat("x", long), 1, api.ErrChar},
		{text(lineA, toA) + "repeat " + strings.Repeat("6", long), 2, api.ErrChar}, {text(lineA, toA) + "repeat" + strings.Repeat(" 6", long), 2, api.ErrLack}, {text(lineA, toA, often) + "beat " + strings.Repeat("0", long), 3, api.ErrChar}, {smallText + strings.Repeat("\n", long), 4, api.ErrWord}, {strings.Repeat(smallText, long/64), 4, api.ErrWord},
	} {
		wantNoParse(t, c.text, c.line, c.why)
	}
}
