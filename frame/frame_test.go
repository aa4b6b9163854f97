package frame

import (
	"bytes"
	"encoding/binary"
	"encoding/hex"
	"math/rand"
	"slices"
	"strings"
	"testing"

	"osmosis/api"
)

// The bytes of these were worked out apart from this package, by another program.
var rows = []struct {
	records []string
	laid    string
}{
	{nil, ""},
	{[]string{""}, "00 af62bd4c860004df"},
	{[]string{"a"}, "01 089ce207b546a4e4 61"},
	{[]string{"\x00"}, "01 08318807b4e9bced 00"},
	{[]string{"\xff"}, "01 0a98a607b6f458ea ff"},
	{[]string{"\x80"}, "01 09e48807b65b516d 80"},
	{[]string{"ab"}, "02 e72103190543af1e 6162"},
	{[]string{"a", "b"}, "01 089ce207b546a4e4 61 01 08a51407b54be85f 62"},
	{[]string{"b", "a"}, "01 08a51407b54be85f 62 01 089ce207b546a4e4 61"},
	{[]string{"a", "a"}, "01 089ce207b546a4e4 61 01 089ce207b546a4e4 61"},
	{[]string{"", "abc", ""}, "00 af62bd4c860004df 03 fc16bb83ee05a171 616263 00 af62bd4c860004df"},
	{[]string{strings.Repeat("x", 1000)}, "e807 af2f590e9cc3d7bf " + strings.Repeat("78", 1000)},
}

func unhex(t *testing.T, text string) []byte {
	t.Helper()
	b, err := hex.DecodeString(strings.ReplaceAll(text, " ", ""))
	if err != nil {
		t.Fatal(err)
	}
	return b
}

func asBytes(texts []string) [][]byte {
	var l [][]byte
	for _, text := range texts {
		l = append(l, []byte(text))
	}
	return l
}

func equal(a, b [][]byte) bool { return slices.EqualFunc(a, b, bytes.Equal) }

// plainSum is a record's sum, without package hash.
func plainSum(record []byte) uint64 {
	sum := uint64(0xcbf29ce484222325)
	for _, c := range record {
		sum = (sum ^ uint64(c)) * 0x100000001b3
	}
	return (sum ^ 256) * 0x100000001b3
}

// plainLay is Lay by the library's numbers, which are of the same form.
func plainLay(b []byte, records ...[]byte) []byte {
	own := slices.Clone(b)
	for _, record := range records {
		own = binary.AppendUvarint(own, uint64(len(record)))
		own = binary.BigEndian.AppendUint64(own, plainSum(record))
		own = append(own, record...)
	}
	return own
}

// plainRead goes the other way round: it tries each length, and asks whether
// that record, laid, is what b begins with.
func plainRead(b []byte) (records [][]byte, used int) {
next:
	for {
		rest := b[used:]
		for n := range min(len(rest), api.MaxRecord) + 1 {
			for ahead := 9; ahead <= 10 && ahead+n <= len(rest); ahead++ {
				laid := plainLay(nil, rest[ahead:ahead+n])
				if len(laid) == ahead+n && bytes.HasPrefix(rest, laid) {
					records = append(records, slices.Clone(rest[ahead:ahead+n]))
					used += ahead + n
					continue next
				}
			}
		}
		return records, used
	}
}

func wantRead(t *testing.T, promise, what string, b []byte, records [][]byte, used int) {
	t.Helper()
	gotRecords, gotUsed := Read(b)
	if !equal(gotRecords, records) || gotUsed != used {
		t.Errorf("%s: Read of %s: %.100q, %d, not %.100q, %d", promise, what, gotRecords, gotUsed, records, used)
	}
}

func TestLayOfKnownRecords(t *testing.T) {
	for _, c := range rows {
		want := unhex(t, c.laid)
		if got := Lay(nil, asBytes(c.records)...); !bytes.Equal(got, want) {
			t.Errorf("3.1: Lay(nil, %.100q): %x, not %x", c.records, got, want)
		}
		ahead := []byte{0, 0xff, 7}
		want = append(slices.Clone(ahead), want...)
		if got := Lay(ahead, asBytes(c.records)...); !bytes.Equal(got, want) {
			t.Errorf("3.1: Lay(%x, %.100q): %x, not %x", ahead, c.records, got, want)
		}
	}
}

func TestReadOfKnownRecords(t *testing.T) {
	for _, c := range rows {
		b := unhex(t, c.laid)
		wantRead(t, "3.1", c.laid, b, asBytes(c.records), len(b))
	}
}

func TestTheExample(t *testing.T) {
	b := Lay(nil, []byte("a"), []byte("b"))
	wantRead(t, "3.2", "the example", b[:len(b)-1], [][]byte{[]byte("a")}, 10)
}

func TestLayOfNoRecordIsWhatIsAhead(t *testing.T) {
	for _, b := range [][]byte{nil, {}, {0}, {1, 2, 3}, bytes.Repeat([]byte{0xff}, 5000)} {
		for name, got := range map[string][]byte{
			"nothing":       Lay(b),
			"nil":           Lay(b, nil...),
			"an empty list": Lay(b, [][]byte{}...),
		} {
			if !bytes.Equal(got, b) {
				t.Errorf("3.1: Lay(%.20x) of %s: %.20x", b, name, got)
			}
		}
	}
}

func TestAnEmptyRecordIsARecord(t *testing.T) {
	for _, empty := range [][]byte{nil, {}} {
		one := unhex(t, "00 af62bd4c860004df")
		if got := Lay(nil, empty); !bytes.Equal(got, one) {
			t.Errorf("3.1: Lay of an empty record: %x", got)
		}
		three := Lay(nil, empty, empty, empty)
		if !bytes.Equal(three, bytes.Repeat(one, 3)) {
			t.Errorf("3.1: Lay of three empty records: %x", three)
		}
		wantRead(t, "3.1", "three empty records", three, make([][]byte, 3), 27)
	}
}

func TestAListThatIsSpreadIsItsRecords(t *testing.T) {
	a, c := []byte("a"), bytes.Repeat([]byte("c"), 200)
	l := [][]byte{a, nil, c, a}
	if got, want := Lay([]byte{5}, l...), Lay([]byte{5}, a, nil, c, a); !bytes.Equal(got, want) {
		t.Errorf("3.1: Lay of a list that is spread: %x, not %x", got, want)
	}
	one := []byte{5}
	for k := range l {
		one = Lay(one, l[k])
		if got := Lay([]byte{5}, l[:k+1]...); !bytes.Equal(got, one) {
			t.Errorf("3.1: Lay of %d records, and one by one: %x, %x", k+1, got, one)
		}
	}
}

// A length takes one byte up to 127, and two up to MaxRecord.
func TestRecordsOfEachLength(t *testing.T) {
	for n := range api.MaxRecord + 1 {
		record := bytes.Repeat([]byte{byte(n)}, n)
		got, want := Lay(nil, record), plainLay(nil, record)
		if !bytes.Equal(got, want) {
			t.Fatalf("3.1: Lay of %d bytes: %.40x, not %.40x", n, got, want)
		}
		if records, used := Read(got); !equal(records, [][]byte{record}) || used != len(got) {
			t.Fatalf("3.1: Read of %d bytes: %d records, %d", n, len(records), used)
		}
	}
}

func TestARecordThatIsTooLongIsLaidAndNotRead(t *testing.T) {
	for _, n := range []int{api.MaxRecord + 1, api.MaxRecord + 2, 1<<14 - 1, 1 << 14, 1 << 16} {
		long := bytes.Repeat([]byte{1}, n)
		b := Lay(nil, long)
		if !bytes.Equal(b, plainLay(nil, long)) {
			t.Errorf("3.1: Lay of %d bytes: %.40x", n, b)
		}
		wantRead(t, "3.1", "a record that is too long", b, nil, 0)
		b = Lay(nil, []byte("a"), long, []byte("b"))
		wantRead(t, "3.1", "a record that is too long behind one that is not", b, [][]byte{[]byte("a")}, 10)
	}
}

func TestReadOfNothing(t *testing.T) {
	wantRead(t, "3.1", "nil", nil, nil, 0)
	wantRead(t, "3.1", "an empty list", []byte{}, nil, 0)
	wantRead(t, "3.1", "a list with spare room alone", Lay(nil, []byte("a"))[:0], nil, 0)
}

// What is behind the end is no part of the bytes, even where it would make a record whole.
func TestReadDoesNotLookBehindTheEnd(t *testing.T) {
	b := Lay(nil, []byte("one"), []byte("two"))
	for k := range 12 {
		wantRead(t, "3.1", "bytes with spare room", b[:12+k], [][]byte{[]byte("one")}, 12)
	}
}

// Each of these is no record; behind it lies a whole one that may not be read.
func TestReadStopsAtWhatIsNoRecord(t *testing.T) {
	sumOfA := "089ce207b546a4e4"
	long := bytes.Repeat([]byte{2}, api.MaxRecord+1)
	for name, text := range map[string]string{
		"a sum of another record":         "01 08a51407b54be85f 61",
		"a sum of nothing":                "01 cbf29ce484222325 61",
		"a sum that is the lowest first":  "01 e4a446b507e29c08 61",
		"a sum without the end of a part": "01 af63dc4c8601ec8c 61",
		"a sum of no bits":                "01 0000000000000000 61",
		"a sum of all bits":               "01 ffffffffffffffff 61",
		"a sum of an empty record":        "00 cbf29ce484222325",
		"another byte":                    "01 " + sumOfA + " 62",
		"a length that is too short":      "00 " + sumOfA + " 61",
		"a length that is too long":       "02 " + sumOfA + " 61",
		"a length with a byte too many":   "8100 " + sumOfA + " 61",
		"a length with two too many":      "818000 " + sumOfA + " 61",
		"a length with eight too many":    "818080808080808000 " + sumOfA + " 61",
		"a length with nine too many":     "81808080808080808000 " + sumOfA + " 61",
		"an empty one's length":           "8000 af62bd4c860004df",
		"a length above MaxRecord":        hex.EncodeToString(plainLay(nil, long)),
		"a length of Most":                "ffffffffffffffff3f " + sumOfA + " 61",
		"a length above Most":             "808080808080808040 " + sumOfA + " 61",
		"a length that goes below 0":      "ffffffffffffffffff01 " + sumOfA + " 61",
		"a length of 2^64 and one":        "81808080808080808002 " + sumOfA + " 61",
		"a length without an end":         strings.Repeat("ff", 30),
		"no length, an empty one's sum":   strings.Repeat("ff", 9) + "af62bd4c860004df",
		"a length of the highest bit":     "80",
	} {
		bad := unhex(t, text)
		one := Lay(nil, []byte("one"))
		wantRead(t, "3.1", name, bad, nil, 0)
		wantRead(t, "3.1", name+", one behind it", Lay(bad, []byte("one")), nil, 0)
		wantRead(t, "3.1", name+", one ahead of it", append(slices.Clone(one), bad...), [][]byte{[]byte("one")}, 12)
		both := Lay(append(slices.Clone(one), bad...), []byte("two"))
		wantRead(t, "3.1", name+", between two", both, [][]byte{[]byte("one")}, 12)
	}
}

func TestReadOfBytesThatEndTooEarly(t *testing.T) {
	for name, text := range map[string]string{
		"a length alone":                  "01",
		"half a length":                   "e8",
		"a length of two bytes alone":     "e807",
		"an empty record without its sum": "00",
		"half a sum":                      "01 089ce207",
		"a sum without its last byte":     "01 089ce207b546a4",
		"a sum without a record":          "01 089ce207b546a4e4",
		"an empty one's sum, cut":         "00 af62bd4c860004",
		"a record without its last byte":  "02 e72103190543af1e 61",
	} {
		wantRead(t, "3.1", name, unhex(t, text), nil, 0)
		b := Lay(nil, []byte("one"))
		wantRead(t, "3.1", name+" behind one", append(b, unhex(t, text)...), [][]byte{[]byte("one")}, 12)
	}
}

// A change of one byte is always seen: each step of a sum is one to one.
func TestReadSeesEachByteThatIsAnother(t *testing.T) {
	one, two := bytes.Repeat([]byte("1"), 130), []byte("two")
	b := Lay(nil, one, two)
	for at := range b {
		for change := 1; change < 256; change++ {
			other := slices.Clone(b)
			other[at] ^= byte(change)
			want, wantUsed := [][]byte{one}, 140
			if at < 140 {
				want, wantUsed = nil, 0
			}
			if got, used := Read(other); !equal(got, want) || used != wantUsed {
				t.Fatalf("3.1: byte %d is another one by %02x: %q, %d", at, change, got, used)
			}
		}
	}
}

func someRecords(r *rand.Rand) [][]byte {
	l := make([][]byte, r.Intn(6))
	for k := range l {
		sizes := []int{0, 1, r.Intn(20), 126 + r.Intn(4), r.Intn(300)}
		l[k] = make([]byte, sizes[r.Intn(len(sizes))])
		r.Read(l[k])
	}
	return l
}

// wholeOf tells what a cut leaves, from the lengths alone.
func wholeOf(records [][]byte, cut int) (whole, used int) {
	for _, record := range records {
		size := len(plainLay(nil, record))
		if used+size > cut {
			break
		}
		whole, used = whole+1, used+size
	}
	return whole, used
}

func TestWhatWasLaidAndCutIsReadAsFarAsItIsWhole(t *testing.T) {
	r := rand.New(rand.NewSource(3))
	for range 300 {
		l := someRecords(r)
		b := Lay(nil, l...)
		for cut := range len(b) + 1 {
			whole, used := wholeOf(l, cut)
			got, gotUsed := Read(b[:cut])
			if !equal(got, l[:whole]) || gotUsed != used {
				t.Fatalf("3.2: %d records, cut at %d: %d, %d, not %d, %d", len(l), cut, len(got), gotUsed, whole, used)
			}
		}
	}
}

func TestTheLongestRecordsCutAnywhere(t *testing.T) {
	most := bytes.Repeat([]byte{0xab}, api.MaxRecord)
	l := [][]byte{most, nil, most}
	b := Lay(nil, l...)
	for cut := range len(b) + 1 {
		whole, used := wholeOf(l, cut)
		got, gotUsed := Read(b[:cut])
		if !equal(got, l[:whole]) || gotUsed != used {
			t.Fatalf("3.2: cut at %d: %d, %d, not %d, %d", cut, len(got), gotUsed, whole, used)
		}
	}
}

// What lies behind a cut, as where a log goes on behind a crash.
func TestReadOfAnyBytes(t *testing.T) {
	r := rand.New(rand.NewSource(4))
	for range 400 {
		b := Lay(nil, someRecords(r)...)
		b = b[:r.Intn(len(b)+1)]
		noise := make([]byte, r.Intn(30))
		r.Read(noise)
		b = Lay(append(b, noise...), []byte("end"))
		want, wantUsed := plainRead(b)
		if got, used := Read(b); !equal(got, want) || used != wantUsed {
			t.Fatalf("3.1: Read(%x): %q, %d, not %q, %d", b, got, used, want, wantUsed)
		}
	}
}

func TestManyRecords(t *testing.T) {
	const many = 200000
	b := Lay(nil, make([][]byte, many)...)
	if len(b) != 9*many {
		t.Fatalf("3.1: Lay of %d records: %d bytes", many, len(b))
	}
	if got, used := Read(b); len(got) != many || used != len(b) {
		t.Errorf("3.1: Read of %d records: %d, %d", many, len(got), used)
	}
}

// guarded answers b's bytes with spare room behind them, and the whole to look at.
func guarded(b []byte) (short, whole []byte) {
	whole = append(slices.Clone(b), bytes.Repeat([]byte{0xee}, 64)...)
	return whole[:len(b)], whole
}

func TestWhatIsHandedInStays(t *testing.T) {
	ahead, wholeAhead := guarded([]byte("ahead"))
	record, wholeRecord := guarded([]byte("record"))
	list := [][]byte{record, nil, []byte("x"), []byte("spare"), []byte("room")}
	beforeAhead, beforeRecord := slices.Clone(wholeAhead), slices.Clone(wholeRecord)
	laid := Lay(ahead, list[:3]...)
	if !bytes.Equal(wholeAhead, beforeAhead) || !bytes.Equal(wholeRecord, beforeRecord) {
		t.Errorf("R2: Lay changed what is handed in: %q, %q", wholeAhead, wholeRecord)
	}
	if !equal(list, asBytes([]string{"record", "", "x", "spare", "room"})) {
		t.Errorf("R2: Lay changed the list that was spread: %q", list)
	}
	short, whole := guarded(laid[len(ahead):])
	before := slices.Clone(whole)
	Read(short)
	Read(short[:len(short)-1])
	Read(short[:1])
	if !bytes.Equal(whole, before) {
		t.Errorf("R2: Read changed what is handed in: %q", whole)
	}
}

func spoil(b []byte) {
	b = b[:cap(b)]
	for k := range b {
		b[k] = '!'
	}
}

func TestWhatLayAnswersIsNewMemory(t *testing.T) {
	ahead, wholeAhead := guarded([]byte("ahead"))
	record, wholeRecord := guarded([]byte("record"))
	beforeAhead, beforeRecord := slices.Clone(wholeAhead), slices.Clone(wholeRecord)
	for _, list := range [][][]byte{nil, {record}, {nil}, {record, record}} {
		spoil(Lay(ahead, list...))
		spoil(Lay(nil, list...))
		spoil(Lay(ahead[:0], list...))
	}
	if !bytes.Equal(wholeAhead, beforeAhead) || !bytes.Equal(wholeRecord, beforeRecord) {
		t.Errorf("R2: Lay's answer shares memory: %q, %q", wholeAhead, wholeRecord)
	}
	first := Lay(ahead, record)
	want := slices.Clone(first)
	second := Lay(ahead, record)
	spoil(second)
	spoil(wholeAhead)
	spoil(wholeRecord)
	if !bytes.Equal(first, want) {
		t.Errorf("R2: Lay's answer is not its own: %q", first)
	}
}

func TestRecordsThatAreAPieceOfWhatIsAhead(t *testing.T) {
	b := []byte("one two")
	want := plainLay([]byte("one"), []byte("two"), []byte("one two"))
	if got := Lay(b[:3], b[4:], b); !bytes.Equal(got, want) {
		t.Errorf("R2: Lay of pieces of one list: %x, not %x", got, want)
	}
}

func TestWhatReadAnswersIsNewMemory(t *testing.T) {
	l := asBytes([]string{"one", "", "two", strings.Repeat("3", 300)})
	b := Lay(nil, l...)
	before := slices.Clone(b)
	for k := range l {
		records, _ := Read(b)
		other, _ := Read(b)
		spoil(records[k])
		spoil(append(records[k], "more"...))
		for n := range l {
			if n != k && !bytes.Equal(records[n], l[n]) {
				t.Errorf("R2: records %d and %d of one answer share memory", k, n)
			}
		}
		if !bytes.Equal(b, before) {
			t.Fatalf("R2: record %d shares memory with what was read", k)
		}
		if !equal(other, l) {
			t.Errorf("R2: record %d of two answers is one", k)
		}
	}
	records, _ := Read(b)
	spoil(b)
	if !equal(records, l) {
		t.Errorf("R2: Read keeps what was handed in: %q", records)
	}
}

func TestAListOfOneAnswerIsNotThatOfAnother(t *testing.T) {
	b := Lay(nil, []byte("one"), []byte("two"))
	first, _ := Read(b)
	second, _ := Read(b)
	first = append(first, []byte("more"))
	first[0] = nil
	if !equal(second, asBytes([]string{"one", "two"})) {
		t.Errorf("R2: the lists of two answers are one: %q", second)
	}
}

func FuzzRead(f *testing.F) {
	f.Add([]byte(nil), []byte(nil), 0)
	f.Add(Lay(nil, []byte("a"), []byte("b")), []byte("c"), 3)
	f.Add([]byte{0x81, 0}, []byte{}, 9)
	f.Fuzz(func(t *testing.T, b, record []byte, cut int) {
		records, used := Read(b)
		if used < 0 || used > len(b) || !bytes.Equal(plainLay(nil, records...), b[:used]) {
			t.Fatalf("3.1: Read(%x): %q, %d", b, records, used)
		}
		if len(record) > api.MaxRecord {
			return
		}
		laid := Lay(b[:used], record)
		again, all := Read(laid)
		if !equal(again, append(records, record)) || all != len(laid) {
			t.Errorf("3.2: %q behind %q: %q, %d", record, records, again, all)
		}
		if cut < used || cut >= len(laid) {
			return
		}
		if left, n := Read(laid[:cut]); len(left) != len(again)-1 || n != used {
			t.Errorf("3.2: cut at %d: %q, %d", cut, left, n)
		}
	})
}
