package nums

import (
	"bytes"
	"encoding/binary"
	"math"
	"math/rand"
	"slices"
	"strings"
	"testing"

	"osmosis/api"
)

// laid are numbers at every edge of the form, with the bytes they are laid as.
var laid = []struct {
	n int
	b []byte
}{
	{0, []byte{0x00}},
	{1, []byte{0x01}},
	{5, []byte{0x05}},
	{127, []byte{0x7f}},
	{128, []byte{0x80, 0x01}},
	{255, []byte{0xff, 0x01}},
	{300, []byte{0xac, 0x02}},
	{16383, []byte{0xff, 0x7f}},
	{16384, []byte{0x80, 0x80, 0x01}},
	{1<<56 - 1, []byte{0xff, 0xff, 0xff, 0xff, 0xff, 0xff, 0xff, 0x7f}},
	{1 << 56, []byte{0x80, 0x80, 0x80, 0x80, 0x80, 0x80, 0x80, 0x80, 0x01}},
	{api.Most - 1, []byte{0xfe, 0xff, 0xff, 0xff, 0xff, 0xff, 0xff, 0xff, 0x3f}},
	{api.Most, []byte{0xff, 0xff, 0xff, 0xff, 0xff, 0xff, 0xff, 0xff, 0x3f}},
}

// wrong are bytes that begin with no number, with the error that tells why.
var wrong = []struct {
	name string
	b    []byte
	e    api.Errno
}{
	{"nothing", nil, api.ErrShort},
	{"empty", []byte{}, api.ErrShort},
	{"one byte of two", []byte{0x80}, api.ErrShort},
	{"eight bytes of nine", []byte(strings.Repeat("\xff", 8)), api.ErrShort},
	{"longer than any number, and not ended", []byte(strings.Repeat("\xff", 30)), api.ErrShort},
	{"longer than any number, all 0, and not ended", []byte(strings.Repeat("\x80", 30)), api.ErrShort},
	{"0 in two bytes", []byte{0x80, 0x00}, api.ErrForm},
	{"1 in two bytes", []byte{0x81, 0x00}, api.ErrForm},
	{"127 in three bytes", []byte{0xff, 0x80, 0x00}, api.ErrForm},
	{"0 in two bytes, a right one behind", []byte{0x80, 0x00, 0x05}, api.ErrForm},
	{"0 in nine bytes", append([]byte(strings.Repeat("\x80", 8)), 0), api.ErrForm},
	{"0 in ten bytes", append([]byte(strings.Repeat("\x80", 9)), 0), api.ErrForm},
	{"0 in thirty bytes", append([]byte(strings.Repeat("\x80", 29)), 0), api.ErrForm},
	{"Most and one", append([]byte(strings.Repeat("\x80", 8)), 0x40), api.ErrForm},
	{"2^63 - 1", append([]byte(strings.Repeat("\xff", 8)), 0x7f), api.ErrForm},
	{"2^63", append([]byte(strings.Repeat("\x80", 9)), 0x01), api.ErrForm},
	{"2^64, which is 0 in 64 bits", append([]byte(strings.Repeat("\x80", 9)), 0x02), api.ErrForm},
	{"5 and 2^70, which is 5 in 64 bits", append([]byte("\x85"+strings.Repeat("\x80", 9)), 0x01), api.ErrForm},
	{"far above Most", append([]byte(strings.Repeat("\xff", 30)), 0x01), api.ErrForm},
}

var outsiders = []int{-1, -2, -128, math.MinInt, api.Most + 1, math.MaxInt}

func TestPutLaysSevenBitsAByte(t *testing.T) {
	for _, c := range laid {
		if got := Put(nil, c.n); !bytes.Equal(got, c.b) {
			t.Errorf("1.1: Put(nil, %d): % x, not % x", c.n, got, c.b)
		}
	}
	if got := Put(nil, 5, 300); !bytes.Equal(got, []byte{0x05, 0xac, 0x02}) {
		t.Errorf("1.1: the chapter's example: % x", got)
	}
}

func TestPutLaysBehindWhatIsThere(t *testing.T) {
	want := []byte{0x99, 0xff}
	var all []int
	for _, c := range laid {
		all = append(all, c.n)
		want = append(want, c.b...)
	}
	if got := Put([]byte{0x99, 0xff}, all...); !bytes.Equal(got, want) {
		t.Errorf("1.1: Put of a list that is spread: % x, not % x", got, want)
	}
}

func TestPutOfNoneIsWhatIsThere(t *testing.T) {
	for _, b := range [][]byte{nil, {}, {0x00}, {0x80, 0x00, 0xff}} {
		if got := Put(b); !bytes.Equal(got, b) {
			t.Errorf("1.1: Put(% x): % x", b, got)
		}
		if got := Put(b, []int{}...); !bytes.Equal(got, b) {
			t.Errorf("1.1: Put(% x) of an empty list: % x", b, got)
		}
	}
}

func TestPutOfANumberThatMayNotBeIsNil(t *testing.T) {
	for _, n := range outsiders {
		for _, l := range [][]int{{n}, {n, 1}, {1, n}, {1, n, 2}, {api.Most, 0, n}} {
			if got := Put([]byte{7}, l...); got != nil {
				t.Errorf("1.1: Put(07, %d): % x", l, got)
			}
		}
	}
}

func TestTakeTellsNumberAndRest(t *testing.T) {
	for _, c := range laid {
		for _, behind := range [][]byte{nil, {0x00}, {0x80}, {0xff, 0x80, 0x00}} {
			n, rest, e := Take(slices.Concat(c.b, behind))
			if n != c.n || !bytes.Equal(rest, behind) || e != api.OK {
				t.Errorf("1.1: Take(% x, % x): %d, % x, %d", c.b, behind, n, rest, e)
			}
		}
	}
}

func TestTakeOfWhatIsCutIsShort(t *testing.T) {
	for _, c := range laid {
		for k := range c.b {
			n, rest, e := Take(c.b[:k])
			if n != 0 || len(rest) != 0 || e != api.ErrShort {
				t.Errorf("1.1: Take(% x): %d, % x, %d", c.b[:k], n, rest, e)
			}
		}
	}
}

func TestTakeRefuses(t *testing.T) {
	for _, c := range wrong {
		n, rest, e := Take(c.b)
		if n != 0 || len(rest) != 0 || e != c.e {
			t.Errorf("1.1: Take of %s: %d, % x, %d, not %d", c.name, n, rest, e, c.e)
		}
	}
}

// uvarint reads as Take must, by means of the library.
func uvarint(b []byte) (int, []byte, api.Errno) {
	n, size := binary.Uvarint(b)
	ended := slices.ContainsFunc(b, func(c byte) bool { return c < 0x80 })
	switch {
	case !ended:
		return 0, nil, api.ErrShort
	case size <= 0 || n > api.Most || len(binary.AppendUvarint(nil, n)) != size:
		return 0, nil, api.ErrForm
	}
	return int(n), b[size:], api.OK
}

func holdAgainstLibrary(t *testing.T, b []byte) {
	t.Helper()
	n, rest, e := Take(b)
	wantN, wantRest, wantE := uvarint(b)
	if n != wantN || !bytes.Equal(rest, wantRest) || e != wantE {
		t.Fatalf("1.1: Take(% x): %d, % x, %d, not %d, % x, %d", b, n, rest, e, wantN, wantRest, wantE)
	}
}

func TestTakeOfAllBytes(t *testing.T) {
	for x := range 1 << 16 {
		b := []byte{byte(x >> 8), byte(x)}
		holdAgainstLibrary(t, b)
		holdAgainstLibrary(t, b[:1])
		holdAgainstLibrary(t, append([]byte{0x80}, b...))
		holdAgainstLibrary(t, append([]byte(strings.Repeat("\xff", 7)), b...))
		holdAgainstLibrary(t, append([]byte(strings.Repeat("\x80", 8)), b...))
	}
}

func TestTakesTellsSoMany(t *testing.T) {
	b := []byte{0x01, 0x80, 0x01, 0x03, 0xac, 0x02, 0x80}
	all := []int{1, 128, 3, 300}
	at := []int{0, 1, 3, 4, 6}
	for count := range at {
		l, rest, e := Takes(b, count)
		if !slices.Equal(l, all[:count]) || !bytes.Equal(rest, b[at[count]:]) || e != api.OK {
			t.Errorf("1.1: Takes(.., %d): %d, % x, %d", count, l, rest, e)
		}
	}
}

func TestTakesOfACountBelowOneIsNone(t *testing.T) {
	for _, b := range [][]byte{nil, {}, {0x01, 0x02}, {0x80}, {0x80, 0x00}} {
		for _, count := range []int{0, -1, math.MinInt} {
			l, rest, e := Takes(b, count)
			if len(l) != 0 || !bytes.Equal(rest, b) || e != api.OK {
				t.Errorf("1.1: Takes(% x, %d): %d, % x, %d", b, count, l, rest, e)
			}
		}
	}
}

func TestTakesRefuses(t *testing.T) {
	for _, c := range wrong {
		for ahead := range 4 {
			b := append(bytes.Repeat([]byte{0x09}, ahead), c.b...)
			for _, count := range []int{ahead + 1, 40, math.MaxInt} {
				l, rest, e := Takes(b, count)
				if len(l) != 0 || len(rest) != 0 || e != c.e {
					t.Errorf("1.1: Takes of %d and %s: %d, % x, %d, not %d", ahead, c.name, l, rest, e, c.e)
				}
			}
			if l, rest, e := Takes(b, ahead); len(l) != ahead || !bytes.Equal(rest, c.b) || e != api.OK {
				t.Errorf("1.1: Takes ahead of %s: %d, % x, %d", c.name, l, rest, e)
			}
		}
	}
}

func TestTakesTellsTheFirstFault(t *testing.T) {
	if _, _, e := Takes([]byte{0x01, 0x80, 0x00, 0x80}, 3); e != api.ErrForm {
		t.Errorf("1.1: Takes: a wrong form ahead of an early end: %d", e)
	}
}

func TestTextLaysLengthAndBytes(t *testing.T) {
	long := strings.Repeat("x", 200)
	for _, c := range []struct {
		b    []byte
		s    []string
		want string
	}{
		{nil, nil, ""},
		{[]byte{0x99}, nil, "\x99"},
		{[]byte{0x99}, []string{}, "\x99"},
		{nil, []string{""}, "\x00"},
		{nil, []string{"", ""}, "\x00\x00"},
		{nil, []string{"ab"}, "\x02ab"},
		{[]byte{0x99}, []string{"ab", "", "\x00\xff\x80"}, "\x99\x02ab\x00\x03\x00\xff\x80"},
		{nil, []string{long[:127], long[:128]}, "\x7f" + long[:127] + "\x80\x01" + long[:128]},
		{nil, []string{long}, "\xc8\x01" + long},
	} {
		if got := Text(c.b, c.s...); string(got) != c.want {
			t.Errorf("1.1: Text(% x, %q): % x", c.b, c.s, got)
		}
	}
}

func TestTakeTextTellsTextAndRest(t *testing.T) {
	long := strings.Repeat("y", 300)
	for _, want := range []string{"", "a", "ab", "\x00\xff\x80", long[:127], long[:128], long} {
		for _, behind := range [][]byte{nil, {0x00}, {0x80}, []byte("more")} {
			s, rest, e := TakeText(append(Text(nil, want), behind...))
			if s != want || !bytes.Equal(rest, behind) || e != api.OK {
				t.Errorf("1.1: TakeText of %q, % x behind: %q, % x, %d", want, behind, s, rest, e)
			}
		}
	}
}

func TestTakeTextOfWhatIsCutIsShort(t *testing.T) {
	for _, text := range []string{"", "a", "abc", strings.Repeat("z", 130)} {
		b := Text(nil, text)
		for k := range b {
			s, rest, e := TakeText(b[:k])
			if s != "" || len(rest) != 0 || e != api.ErrShort {
				t.Errorf("1.1: TakeText(% x): %q, % x, %d", b[:k], s, rest, e)
			}
		}
	}
	for _, length := range []int{2, 1 << 31, 1 << 56, api.Most} {
		s, rest, e := TakeText(append(Put(nil, length), 'a'))
		if s != "" || len(rest) != 0 || e != api.ErrShort {
			t.Errorf("1.1: TakeText of one byte of %d: %q, % x, %d", length, s, rest, e)
		}
	}
}

func TestTakeTextRefusesALengthThatTakeRefuses(t *testing.T) {
	for _, c := range wrong {
		s, rest, e := TakeText(c.b)
		if s != "" || len(rest) != 0 || e != c.e {
			t.Errorf("1.1: TakeText of %s: %q, % x, %d, not %d", c.name, s, rest, e, c.e)
		}
	}
}

// edges are all numbers next to a power of two, and both ends.
func edges() []int {
	l := []int{0, api.Most}
	for k := range 62 {
		l = append(l, 1<<k-1, 1<<k, 1<<k+1)
	}
	return slices.DeleteFunc(l, func(n int) bool { return n > api.Most })
}

func TestWhatWasPutIsTakenAgain(t *testing.T) {
	source := rand.New(rand.NewSource(1))
	l := edges()
	for range 2000 {
		l = append(l, source.Intn(api.Most)>>source.Intn(62))
	}
	ahead, behind := []byte{0xff, 0x80}, []byte{0x80, 0x00, 0xff}
	b := append(Put(ahead, l...), behind...)[len(ahead):]
	got, rest, e := Takes(b, len(l))
	if !slices.Equal(got, l) || !bytes.Equal(rest, behind) || e != api.OK {
		t.Errorf("1.2: Takes of what was Put: % x, %d", rest, e)
	}
	for k, want := range l {
		n, rest, e := Take(b)
		if n != want || e != api.OK {
			t.Fatalf("1.2: Take of number %d: %d, not %d: %d", k, n, want, e)
		}
		if size := len(b) - len(rest); size != len(binary.AppendUvarint(nil, uint64(want))) {
			t.Fatalf("1.1: %d takes %d bytes", want, size)
		}
		b = rest
	}
	if !bytes.Equal(b, behind) {
		t.Errorf("1.2: behind all numbers: % x", b)
	}
}

func TestTextsThatWereLaidAreTakenAgain(t *testing.T) {
	source := rand.New(rand.NewSource(2))
	var l []string
	for size := range 300 {
		text := make([]byte, size)
		source.Read(text)
		l = append(l, string(text))
	}
	ahead, behind := []byte{0xff, 0x80}, []byte{0x80, 0x00, 0xff}
	b := append(Text(ahead, l...), behind...)[len(ahead):]
	for k, want := range l {
		s, rest, e := TakeText(b)
		if s != want || e != api.OK {
			t.Fatalf("1.2: TakeText of text %d: %q, not %q: %d", k, s, want, e)
		}
		b = rest
	}
	if !bytes.Equal(b, behind) {
		t.Errorf("1.2: behind all texts: % x", b)
	}
}

// guarded is a list whose spare room, ahead and behind, is watched too.
type guarded struct {
	whole, before []byte
	b             []byte
}

func guard(b []byte) guarded {
	const room = 64
	whole := slices.Concat(bytes.Repeat([]byte{0xa5}, room), b, bytes.Repeat([]byte{0x5a}, room))
	return guarded{whole, bytes.Clone(whole), whole[room : room+len(b)]}
}

// holdApart sees that a call left what it was handed as it was, and answers
// memory of its own: what is written to the one does not show in the other.
func holdApart(t *testing.T, name string, g guarded, answer []byte) {
	t.Helper()
	if !bytes.Equal(g.whole, g.before) {
		t.Errorf("R2: %s changed what it was handed", name)
	}
	told := bytes.Clone(answer)
	fill(g.whole, 0x11)
	if !bytes.Equal(answer, told) {
		t.Errorf("R2: %s: the answer shares what was handed in", name)
	}
	fill(answer[:cap(answer)], 0x22)
	if slices.Contains(g.whole, 0x22) {
		t.Errorf("R2: %s: the answer, or its spare room, lies in what was handed in", name)
	}
}

func fill(b []byte, c byte) {
	for k := range b {
		b[k] = c
	}
}

func TestAnswersAreNewMemory(t *testing.T) {
	for _, b := range [][]byte{{}, {0x01}, {0x01, 0x02, 0x03, 0x04}, {0x02, 'a', 'b', 0x00}} {
		calls := []struct {
			name string
			call func(b []byte) []byte
		}{
			{"Put of none", func(b []byte) []byte { return Put(b) }},
			{"Put", func(b []byte) []byte { return Put(b, 5, 300) }},
			{"Put of a wrong one", func(b []byte) []byte { return Put(b, 5, -1) }},
			{"Text of none", func(b []byte) []byte { return Text(b) }},
			{"Text", func(b []byte) []byte { return Text(b, "", "abc") }},
			{"Take", func(b []byte) []byte { _, rest, _ := Take(b); return rest }},
			{"Takes of none", func(b []byte) []byte { _, rest, _ := Takes(b, 0); return rest }},
			{"Takes", func(b []byte) []byte { _, rest, _ := Takes(b, 1); return rest }},
			{"Takes of too many", func(b []byte) []byte { _, rest, _ := Takes(b, 9); return rest }},
			{"TakeText", func(b []byte) []byte { _, rest, _ := TakeText(b); return rest }},
		}
		for _, c := range calls {
			g := guard(b)
			holdApart(t, c.name, g, c.call(g.b))
		}
	}
}

func TestATextOutlivesItsBytes(t *testing.T) {
	g := guard([]byte{0x03, 'a', 'b', 'c', 'd'})
	s, _, _ := TakeText(g.b)
	fill(g.whole, 'x')
	if s != "abc" {
		t.Errorf("R2: TakeText: %q, once its bytes are others", s)
	}
}

func TestListsThatAreSpreadStay(t *testing.T) {
	numbers := []int{1, 128, api.Most, 7, 7}
	Put(nil, numbers[:3]...)
	if !slices.Equal(numbers, []int{1, 128, api.Most, 7, 7}) {
		t.Errorf("R2: Put changed the list that was spread: %d", numbers)
	}
	texts := []string{"a", "", "bc", "d"}
	Text(nil, texts[:3]...)
	if !slices.Equal(texts, []string{"a", "", "bc", "d"}) {
		t.Errorf("R2: Text changed the list that was spread: %q", texts)
	}
}

func TestTwoAnswersShareNothing(t *testing.T) {
	b := make([]byte, 1, 32)
	first, second := Put(b, 1), Put(b, 2)
	if first[1] != 1 || second[1] != 2 {
		t.Errorf("R2: two answers of Put on the same bytes: % x, % x", first, second)
	}
	one, two := Text(b, "p"), Text(b, "q")
	if one[2] != 'p' || two[2] != 'q' {
		t.Errorf("R2: two answers of Text on the same bytes: % x, % x", one, two)
	}
}

func FuzzTake(f *testing.F) {
	for _, c := range wrong {
		f.Add(c.b)
	}
	for _, c := range laid {
		f.Add(c.b)
	}
	f.Fuzz(func(t *testing.T, b []byte) {
		holdAgainstLibrary(t, b)
		n, rest, e := Take(b)
		if e == api.OK && !bytes.Equal(append(Put(nil, n), rest...), b) {
			t.Errorf("1.2: what was taken of % x is put otherwise", b)
		}
	})
}
