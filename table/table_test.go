package table

import (
	"maps"
	"math"
	"math/rand"
	"slices"
	"strings"
	"testing"

	"osmosis/api"
)

func get(key string) api.Op        { return api.Op{Kind: api.Get, Key: key} }
func put(key, value string) api.Op { return api.Op{Kind: api.Put, Key: key, Value: value} }
func del(key string) api.Op        { return api.Op{Kind: api.Del, Key: key} }
func cas(key, value, old string) api.Op {
	return api.Op{Kind: api.Cas, Key: key, Value: value, Old: old}
}

func is(value string) api.Answer { return api.Answer{Value: value} }

var (
	done = api.Answer{}
	arg  = api.Answer{Why: api.ErrArg}
	none = api.Answer{Why: api.ErrNone}
	full = api.Answer{Why: api.ErrFull}
)

func other(value string) api.Answer { return api.Answer{Why: api.ErrOther, Value: value} }

// pairs answers those of "key=value" texts.
func pairs(texts ...string) []api.Pair {
	var l []api.Pair
	for _, text := range texts {
		key, value, _ := strings.Cut(text, "=")
		l = append(l, api.Pair{Key: key, Value: value})
	}
	return l
}

// holds asks for these pairs, and for each by its key.
func holds(t *testing.T, what string, x *Table, want []api.Pair) {
	t.Helper()
	if got := x.Pairs(); !slices.Equal(got, want) {
		t.Fatalf("%s: Pairs: %q, not %q", what, got, want)
	}
	if x.Len() != len(want) {
		t.Fatalf("%s: Len: %d, not %d", what, x.Len(), len(want))
	}
	for _, pair := range want {
		does(t, what, x, get(pair.Key), is(pair.Value))
	}
}

func does(t *testing.T, what string, x *Table, o api.Op, want api.Answer) {
	t.Helper()
	if got := x.Do(o); got != want {
		t.Fatalf("%s: Do(%#v): %#v, not %#v", what, o, got, want)
	}
}

// made answers a table with these pairs, which rise.
func made(t *testing.T, want []api.Pair) *Table {
	t.Helper()
	var x Table
	for _, pair := range want {
		does(t, "6.1: a table that is made", &x, put(pair.Key, pair.Value), done)
	}
	holds(t, "6.1: a table that was made", &x, want)
	return &x
}

// starts are tables with no key, one, some, all but one, and all that there is room for.
func starts() map[string][]api.Pair {
	all := pairs("a=1", "b=2", "c=3", "d=", "e=5", "f=6", "g=7", "h=sixteen bytes...")
	return map[string][]api.Pair{
		"empty": nil, "one key": all[:1], "some keys": all[:4],
		"all but one": all[:api.MaxKeys-1], "full": all[:api.MaxKeys],
	}
}

func TestTheExample(t *testing.T) {
	var x Table
	does(t, "6.1: the example", &x, put("a", "1"), done)
	does(t, "6.1: the example", &x, cas("a", "2", "3"), other("1"))
	holds(t, "6.1: the example", &x, pairs("a=1"))
}

// plainRight is Right, case by case.
func plainRight(o api.Op) bool {
	if o.Key == "" || len(o.Key) > 8 {
		return false
	}
	switch o.Kind {
	case 1, 3:
		return o.Value == "" && o.Old == ""
	case 2:
		return len(o.Value) < 17 && o.Old == ""
	case 4:
		return len(o.Value) < 17 && len(o.Old) < 17
	}
	return false
}

var kinds = []int{math.MinInt, -4, -1, 0, api.Get, api.Put, api.Del, api.Cas, 5, 6, 8, 1 << 32, 1<<32 + 1, math.MaxInt}

// anyOps answers operations of all kinds, right and wrong, with each length at its edges.
func anyOps() []api.Op {
	text := strings.Repeat("abcd", 300)
	var l []api.Op
	for _, kind := range kinds {
		for _, key := range []int{0, 1, 2, api.MaxKey - 1, api.MaxKey, api.MaxKey + 1, 2 * api.MaxKey, 257, 1000} {
			for _, value := range []int{0, 1, api.MaxValue - 1, api.MaxValue, api.MaxValue + 1, 256, 1000} {
				for _, old := range []int{0, 1, api.MaxValue - 1, api.MaxValue, api.MaxValue + 1, 256, 1000} {
					l = append(l, api.Op{Kind: kind, Key: text[:key], Value: text[:value], Old: text[:old]})
				}
			}
		}
	}
	return l
}

func TestTheLimits(t *testing.T) {
	if api.MaxKey != 8 || api.MaxValue != 16 || api.MaxKeys != 8 || api.Get != 1 || api.Put != 2 || api.Del != 3 || api.Cas != 4 {
		t.Error("package api was turned: plainRight reckons with its numbers")
	}
}

func TestRight(t *testing.T) {
	long := strings.Repeat("x", api.MaxValue+1)
	for _, c := range []struct {
		what string
		o    api.Op
		want bool
	}{
		{"the zero one", api.Op{}, false},
		{"a kind just below Get", api.Op{Kind: api.Get - 1, Key: "a"}, false},
		{"a kind just above Cas", api.Op{Kind: api.Cas + 1, Key: "a"}, false},
		{"a kind below 0", api.Op{Kind: -1, Key: "a"}, false},
		{"Get", get("a"), true},
		{"Get without a key", get(""), false},
		{"Get of a key that is just short enough", get(long[:api.MaxKey]), true},
		{"Get of a key that is too long", get(long[:api.MaxKey+1]), false},
		{"Get with a value", api.Op{Kind: api.Get, Key: "a", Value: "x"}, false},
		{"Get with an old one", api.Op{Kind: api.Get, Key: "a", Old: "x"}, false},
		{"Put", put("a", "x"), true},
		{"Put of no byte", put("a", ""), true},
		{"Put without a key", put("", "x"), false},
		{"Put of a value that is just short enough", put("a", long[:api.MaxValue]), true},
		{"Put of a value that is too long", put("a", long), false},
		{"Put with an old one", api.Op{Kind: api.Put, Key: "a", Value: "x", Old: "y"}, false},
		{"Put of no byte with an old one", api.Op{Kind: api.Put, Key: "a", Old: "y"}, false},
		{"Del", del("a"), true},
		{"Del without a key", del(""), false},
		{"Del with a value", api.Op{Kind: api.Del, Key: "a", Value: "x"}, false},
		{"Del with an old one", api.Op{Kind: api.Del, Key: "a", Old: "x"}, false},
		{"Cas", cas("a", "x", "y"), true},
		{"Cas from no byte to no byte", cas("a", "", ""), true},
		{"Cas of the same value", cas("a", "x", "x"), true},
		{"Cas without a key", cas("", "x", "y"), false},
		{"Cas of texts that are just short enough", cas("a", long[:api.MaxValue], long[:api.MaxValue]), true},
		{"Cas of a value that is too long", cas("a", long, "y"), false},
		{"Cas of an old one that is too long", cas("a", "x", long), false},
	} {
		if got := Right(c.o); got != c.want {
			t.Errorf("6.1: Right of %s: %t", c.what, got)
		}
	}
}

func TestRightOfAnyOperation(t *testing.T) {
	for _, o := range anyOps() {
		if got, want := Right(o), plainRight(o); got != want {
			t.Errorf("6.1: Right(kind %d, %d, %d, %d bytes): %t", o.Kind, len(o.Key), len(o.Value), len(o.Old), got)
		}
	}
}

// Lengths are those of bytes, not of runes; any byte may stand in a text.
func TestRightCountsBytes(t *testing.T) {
	for _, c := range []struct {
		o    api.Op
		want bool
	}{
		{get("\x00"), true},
		{get("\xff\xfe\x80"), true},
		{get(" "), true},
		{get("éééé"), true},
		{get("ééééé"), false},
		{get("éééé\x80"), false},
		{put("a", strings.Repeat("é", 8)), true},
		{put("a", strings.Repeat("é", 9)), false},
		{put("a", "\x00"), true},
		{api.Op{Kind: api.Get, Key: "a", Value: "\x00"}, false},
		{api.Op{Kind: api.Put, Key: "a", Old: "\x00"}, false},
		{cas("a", "\x00", strings.Repeat("é", 8)), true},
		{cas("a", "\x00", strings.Repeat("é", 9)), false},
	} {
		if got := Right(c.o); got != c.want {
			t.Errorf("6.1: Right(%#v): %t", c.o, got)
		}
		var x Table
		if got := x.Do(c.o).Why != api.ErrArg; got != c.want {
			t.Errorf("6.1: Do(%#v): ErrArg: %t", c.o, !got)
		}
	}
}

func TestDoOfWhatIsNotRight(t *testing.T) {
	for name, start := range starts() {
		x := made(t, start)
		for _, o := range anyOps() {
			if plainRight(o) {
				continue
			}
			does(t, "6.1: "+name, x, o, arg)
			if x.Len() != len(start) || !slices.Equal(x.Pairs(), start) {
				t.Fatalf("6.1: %s: Do(%#v) was refused, and done", name, o)
			}
		}
		holds(t, "6.1: what is refused, "+name, x, start)
	}
}

// ErrArg is named first: neither ErrNone, ErrFull nor ErrOther is told of such an operation.
func TestWhatIsNotRightIsToldFirst(t *testing.T) {
	long := strings.Repeat("x", api.MaxValue+1)
	x := made(t, starts()["full"])
	for _, o := range []api.Op{
		put("new", long), put("toolongkey", "v"), get("toolongkey"), del("toolongkey"), cas("toolongkey", "", ""),
		cas("a", long, "?"), cas("a", "v", long), cas("new", "v", long), put("", "v"), {Kind: 7, Key: "new"},
		{Kind: api.Get, Key: "new", Value: "v"}, {Kind: api.Del, Key: "a", Old: "1"}, {Kind: api.Put, Key: "new", Old: "o"},
	} {
		does(t, "6.1: two errors apply", x, o, arg)
	}
	holds(t, "6.1: two errors apply", x, starts()["full"])
}

func TestGet(t *testing.T) {
	for name, start := range starts() {
		x := made(t, start)
		for range 2 {
			for _, pair := range start {
				does(t, "6.1: Get, "+name, x, get(pair.Key), is(pair.Value))
			}
			for _, key := range []string{"0", "aa", "A", "bb", "i", "\x00", "\xff", "a\x00"} {
				does(t, "6.1: Get of what is not there, "+name, x, get(key), none)
			}
		}
		holds(t, "6.1: Get, "+name, x, start)
	}
}

func TestPutOfANewKey(t *testing.T) {
	for name, start := range starts() {
		for _, fresh := range pairs("0=first", "aa=between", "dd=", "i=last", "\xff\xff\xff\xff\xff\xff\xff\xff=longest keys") {
			x := made(t, start)
			if len(start) == api.MaxKeys {
				does(t, "6.1: Put of a key too many", x, put(fresh.Key, fresh.Value), full)
				does(t, "6.1: Put of a key too many, again", x, put(fresh.Key, fresh.Value), full)
				does(t, "6.1: Get of a key too many", x, get(fresh.Key), none)
				holds(t, "6.1: Put of a key too many", x, start)
				continue
			}
			does(t, "6.1: Put, "+name, x, put(fresh.Key, fresh.Value), done)
			holds(t, "6.1: Put, "+name, x, sorted(append(slices.Clone(start), fresh)))
		}
	}
}

func sorted(l []api.Pair) []api.Pair {
	slices.SortFunc(l, func(a, b api.Pair) int { return strings.Compare(a.Key, b.Key) })
	return l
}

// replaced answers l with another value at place k.
func replaced(l []api.Pair, k int, value string) []api.Pair {
	l = slices.Clone(l)
	l[k].Value = value
	return l
}

func TestPutOfAKeyThatIsThere(t *testing.T) {
	for name, start := range starts() {
		for k, pair := range start {
			for _, value := range []string{"", "new", pair.Value, strings.Repeat("v", api.MaxValue)} {
				x := made(t, start)
				does(t, "6.1: Put, "+name, x, put(pair.Key, value), done)
				holds(t, "6.1: Put of a key that is there, "+name, x, replaced(start, k, value))
			}
			x := made(t, start)
			does(t, "6.1: Put, "+name, x, put(pair.Key, strings.Repeat("v", api.MaxValue+1)), arg)
			holds(t, "6.1: Put of a value that is too long, "+name, x, start)
		}
	}
}

func TestDel(t *testing.T) {
	for name, start := range starts() {
		for k, pair := range start {
			x := made(t, start)
			left := slices.Delete(slices.Clone(start), k, k+1)
			does(t, "6.1: Del, "+name, x, del(pair.Key), done)
			holds(t, "6.1: Del, "+name, x, left)
			does(t, "6.1: Get of what is gone, "+name, x, get(pair.Key), none)
			does(t, "6.1: Del of what is gone, "+name, x, del(pair.Key), none)
			does(t, "6.1: Cas of what is gone, "+name, x, cas(pair.Key, "v", pair.Value), none)
			holds(t, "6.1: Del twice, "+name, x, left)
			does(t, "6.1: Put of what is gone, "+name, x, put(pair.Key, "back"), done)
			holds(t, "6.1: Put of what is gone, "+name, x, replaced(start, k, "back"))
		}
		x := made(t, start)
		for _, key := range []string{"0", "aa", "A", "i", "\x00", "\xff"} {
			does(t, "6.1: Del of what is not there, "+name, x, del(key), none)
			holds(t, "6.1: Del of what is not there, "+name, x, start)
		}
	}
}

func TestDelGivesRoomBack(t *testing.T) {
	start := starts()["full"]
	for k, pair := range start {
		x := made(t, start)
		does(t, "6.1: a full table", x, put("new", "n"), full)
		does(t, "6.1: a full table", x, del(pair.Key), done)
		does(t, "6.1: Put where room came back", x, put("new", "n"), done)
		want := sorted(append(slices.Delete(slices.Clone(start), k, k+1), pairs("new=n")...))
		holds(t, "6.1: Put where room came back", x, want)
		does(t, "6.1: full again", x, put(pair.Key, "v"), full)
		holds(t, "6.1: full again", x, want)
	}
}

func TestDelOfAll(t *testing.T) {
	start := starts()["full"]
	for _, order := range [][]int{{0, 1, 2, 3, 4, 5, 6, 7}, {7, 6, 5, 4, 3, 2, 1, 0}, {3, 6, 0, 7, 1, 5, 2, 4}} {
		x := made(t, start)
		for _, k := range order {
			does(t, "6.1: Del of all", x, del(start[k].Key), done)
		}
		holds(t, "6.1: Del of all", x, nil)
		if *x != (Table{}) {
			t.Error("6.1: a table keeps what is gone")
		}
	}
}

func TestCas(t *testing.T) {
	for name, start := range starts() {
		for k, pair := range start {
			for _, value := range []string{"", "new", pair.Value, strings.Repeat("v", api.MaxValue)} {
				x := made(t, start)
				does(t, "6.1: Cas, "+name, x, cas(pair.Key, value, pair.Value), done)
				holds(t, "6.1: Cas, "+name, x, replaced(start, k, value))
			}
		}
	}
}

func TestCasWithAnotherOld(t *testing.T) {
	for name, start := range starts() {
		x := made(t, start)
		for _, pair := range start {
			for _, old := range []string{"", "?", pair.Key, pair.Value + "\x00", pair.Value[:len(pair.Value)/2], strings.Repeat("o", api.MaxValue)} {
				if old == pair.Value || len(old) > api.MaxValue {
					continue
				}
				for _, value := range []string{"", "new", old, pair.Value} {
					does(t, "6.1: Cas, "+name, x, cas(pair.Key, value, old), other(pair.Value))
					holds(t, "6.1: Cas with another Old, "+name, x, start)
				}
			}
		}
	}
}

func TestCasOfWhatIsNotThere(t *testing.T) {
	for name, start := range starts() {
		x := made(t, start)
		for _, key := range []string{"0", "aa", "i", "\xff"} {
			for _, old := range []string{"", "1", "v"} {
				does(t, "6.1: Cas of what is not there, "+name, x, cas(key, "v", old), none)
				holds(t, "6.1: Cas of what is not there, "+name, x, start)
			}
		}
	}
}

// Nobody but the operation's own key is touched, nor asked.
func TestCasLooksAtItsOwnKey(t *testing.T) {
	x := made(t, pairs("a=1", "b=2"))
	does(t, "6.1: Cas with another key's value", x, cas("a", "9", "2"), other("1"))
	does(t, "6.1: Cas", x, cas("b", "1", "2"), done)
	does(t, "6.1: Cas behind Cas", x, cas("b", "3", "2"), other("1"))
	does(t, "6.1: Cas", x, cas("a", "", "1"), done)
	does(t, "6.1: Cas of a value of no byte", x, cas("a", "x", "1"), other(""))
	does(t, "6.1: Cas of a value of no byte", x, cas("a", "x", ""), done)
	holds(t, "6.1: a run of Cas", x, pairs("a=x", "b=1"))
}

// byBytes rise by their bytes: not by length, by number, by letter whatever its case, nor by signed bytes.
var byBytes = []string{"\x00", "\x00\x00", "0", "10", "2", "B", "a", "a\x00", "aa", "aaaaaaaa", "ab", "b", "\x7f", "\x80", "é", "\xff", "\xff\x00"}

func TestPairsRiseByTheirBytes(t *testing.T) {
	r := rand.New(rand.NewSource(6))
	for range 300 {
		keys := slices.Clone(byBytes)
		r.Shuffle(len(keys), func(a, b int) { keys[a], keys[b] = keys[b], keys[a] })
		keys = keys[:r.Intn(api.MaxKeys+1)]
		var x Table
		var want []api.Pair
		for _, key := range keys {
			does(t, "6.1: Put in any order", &x, put(key, "of "+key), done)
		}
		for _, key := range byBytes {
			if slices.Contains(keys, key) {
				want = append(want, api.Pair{Key: key, Value: "of " + key})
			}
		}
		holds(t, "6.1: rising", &x, want)
		if got := Of(want...); got != x {
			t.Fatalf("6.1: Of(%q): %q", want, got.Pairs())
		}
	}
}

func TestOfNothing(t *testing.T) {
	for name, x := range map[string]Table{
		"nothing":       Of(),
		"a nil list":    Of([]api.Pair(nil)...),
		"an empty list": Of([]api.Pair{}...),
		"spare room":    Of(pairs("a=1")[:0]...),
	} {
		holds(t, "6.1: Of of "+name, &x, nil)
		does(t, "6.1: Of of "+name, &x, put("a", "1"), done)
		holds(t, "6.1: Put behind Of of "+name, &x, pairs("a=1"))
	}
}

func TestOf(t *testing.T) {
	long := strings.Repeat("x", api.MaxValue+1)
	eight := pairs("h=8", "b=2", "c=3", "a=1", "f=6", "e=5", "g=7", "d=4")
	rising := pairs("a=1", "b=2", "c=3", "d=4", "e=5", "f=6", "g=7", "h=8")
	for _, c := range []struct {
		what    string
		l, want []api.Pair
	}{
		{"one", pairs("a=1"), pairs("a=1")},
		{"several", pairs("b=2", "a=1"), pairs("a=1", "b=2")},
		{"values of no byte", pairs("b=", "a="), pairs("a=", "b=")},
		{"a key twice", pairs("a=1", "b=2", "a=3"), pairs("a=3", "b=2")},
		{"a key ever again", pairs("a=1", "a=2", "a=3", "a=4", "a=5", "a=6", "a=7", "a=8", "a=9"), pairs("a=9")},
		{"the longest texts", pairs("abcdefgh=" + long[1:]), pairs("abcdefgh=" + long[1:])},
		{"a key of no byte", pairs("=1"), nil},
		{"a key that is too long", pairs("abcdefghi=1"), nil},
		{"a value that is too long", pairs("a=" + long), nil},
		{"what is refused, ahead", pairs("=1", "abcdefghi=2", "z="+long, "b=2", "a=1"), pairs("a=1", "b=2")},
		{"what is refused, between", pairs("b=2", "=1", "abcdefghi=2", "z="+long, "a=1"), pairs("a=1", "b=2")},
		{"what is refused, behind", pairs("b=2", "a=1", "=1", "abcdefghi=2", "z="+long), pairs("a=1", "b=2")},
		{"a refused value of a key that is there", pairs("a=1", "a="+long, "b=2"), pairs("a=1", "b=2")},
		{"just so many as there is room for", eight, rising},
		{"one too many", append(eight[:8:8], pairs("i=9")...), rising},
		{"one too many that is lower", append(eight[:8:8], pairs("0=9")...), rising},
		{"many too many", append(eight[:8:8], pairs("i=9", "0=0", "bb=", "j=10")...), rising},
		{"one too many, then one that is there", append(eight[:8:8], pairs("i=9", "a=new")...), replaced(rising, 0, "new")},
		{"refused ones take no room", append(pairs("=1", "abcdefghi=2", "z="+long), eight...), rising},
		{"the same ones twice", slices.Concat(eight, eight), rising},
		{"the zero pair", []api.Pair{{}, {Key: "a"}, {}}, pairs("a=")},
	} {
		x := Of(c.l...)
		holds(t, "6.1: Of: "+c.what, &x, c.want)
		y := made(t, c.want)
		if x != *y {
			t.Errorf("6.1: Of: %s: another table than that of its pairs", c.what)
		}
		again := Of(x.Pairs()...)
		holds(t, "6.1: Of what Pairs answered: "+c.what, &again, c.want)
	}
}

func TestOfAListThatIsSpread(t *testing.T) {
	l := pairs("b=2", "a=1", "c=3", "d=spare", "e=room")
	spread, listed := Of(l[:3]...), Of(l[0], l[1], l[2])
	for name, x := range map[string]*Table{"spread": &spread, "listed": &listed} {
		holds(t, "6.1: Of, "+name, x, pairs("a=1", "b=2", "c=3"))
	}
}

func TestTheZeroTableIsEmpty(t *testing.T) {
	zeros := []*Table{new(Table), {}, &make([]Table, 1)[0]}
	for _, o := range anyOps() {
		if !plainRight(o) {
			continue
		}
		var x Table
		want := none
		if o.Kind == api.Put {
			want = done
		}
		does(t, "6.2: the zero Table", &x, o, want)
	}
	for _, x := range zeros {
		holds(t, "6.2: the zero Table", x, nil)
		does(t, "6.2: the zero Table", x, get("a"), none)
		does(t, "6.2: the zero Table", x, del("a"), none)
		does(t, "6.2: the zero Table", x, cas("a", "", ""), none)
		does(t, "6.2: the zero Table", x, get(""), arg)
		holds(t, "6.2: the zero Table, asked", x, nil)
		does(t, "6.2: the zero Table", x, put("a", "1"), done)
		holds(t, "6.2: the zero Table, told", x, pairs("a=1"))
	}
	var x Table
	holds(t, "6.2: another zero Table", &x, nil)
}

// someChanges are those of each key that is there, and new keys at both ends and between.
func someChanges(start []api.Pair) []api.Op {
	l := []api.Op{put("0", "new"), put("bb", "new"), put("z", "new")}
	for _, pair := range start {
		l = append(l, put(pair.Key, "put"), del(pair.Key), cas(pair.Key, "cas", pair.Value))
	}
	return l
}

// plain is a table as a map.
type plain map[string]string

func (p plain) do(o api.Op) api.Answer {
	value, there := p[o.Key]
	switch {
	case !plainRight(o):
		return arg
	case o.Kind == api.Put && !there && len(p) >= 8:
		return full
	case o.Kind == api.Put:
		p[o.Key] = o.Value
		return done
	case !there:
		return none
	case o.Kind == api.Get:
		return is(value)
	case o.Kind == api.Del:
		delete(p, o.Key)
		return done
	case value != o.Old:
		return other(value)
	}
	p[o.Key] = o.Value
	return done
}

func (p plain) pairs() []api.Pair {
	var l []api.Pair
	for _, key := range slices.Sorted(maps.Keys(p)) {
		l = append(l, api.Pair{Key: key, Value: p[key]})
	}
	return l
}

func plainOf(l []api.Pair) plain {
	p := plain{}
	for _, pair := range l {
		p[pair.Key] = pair.Value
	}
	return p
}

func TestACopyKnowsNothingOfTheOther(t *testing.T) {
	for name, start := range starts() {
		for _, o := range someChanges(start) {
			p := plainOf(start)
			want := p.do(o)
			old := made(t, start)
			fresh := *old
			does(t, "6.2: a copy, "+name, &fresh, o, want)
			holds(t, "6.2: a copy was told, not its table, "+name, old, start)
			holds(t, "6.2: a copy that was told, "+name, &fresh, p.pairs())
			fresh = *old
			does(t, "6.2: a table, "+name, old, o, want)
			holds(t, "6.2: a table was told, not its copy, "+name, &fresh, start)
			holds(t, "6.2: a table that was told, "+name, old, p.pairs())
		}
	}
}

func TestCopiesOfCopies(t *testing.T) {
	first := Of(pairs("a=1", "b=2", "c=3")...)
	second := first
	does(t, "6.2: a copy", &second, put("b", "9"), done)
	third := second
	does(t, "6.2: a copy of a copy", &third, del("a"), done)
	list := []Table{first, second, third}
	inList := list[2]
	does(t, "6.2: one in a list", &list[2], put("d", "4"), done)
	does(t, "6.2: one in a list", &list[0], del("c"), done)
	handed := func(x Table) Table { x.Do(put("e", "5")); return x }(second)
	for _, c := range []struct {
		what string
		x    *Table
		want []api.Pair
	}{
		{"the first one", &first, pairs("a=1", "b=2", "c=3")},
		{"its copy", &second, pairs("a=1", "b=9", "c=3")},
		{"the copy's copy", &third, pairs("b=9", "c=3")},
		{"a copy in a list", &list[0], pairs("a=1", "b=2")},
		{"another one in a list", &list[1], pairs("a=1", "b=9", "c=3")},
		{"the last one in a list", &list[2], pairs("b=9", "c=3", "d=4")},
		{"a copy of that, ahead of it", &inList, pairs("b=9", "c=3")},
		{"one that was handed in", &handed, pairs("a=1", "b=9", "c=3", "e=5")},
	} {
		holds(t, "6.2: "+c.what, c.x, c.want)
	}
}

// A full table and its copy have room each for itself.
func TestACopyHasARoomOfItsOwn(t *testing.T) {
	x := Of(starts()["all but one"]...)
	y := x
	does(t, "6.2: a table", &x, put("x", "of x"), done)
	does(t, "6.2: a table that is full", &x, put("y", "of y"), full)
	does(t, "6.2: its copy, which is not", &y, put("y", "of y"), done)
	does(t, "6.2: its copy, now full", &y, put("x", "of x"), full)
	holds(t, "6.2: a table", &x, append(starts()["all but one"], pairs("x=of x")...))
	holds(t, "6.2: its copy", &y, append(starts()["all but one"], pairs("y=of y")...))
}

// holder has a table embedded, as a shard has.
type holder struct {
	Table
	ID int
}

func TestATableThatIsEmbedded(t *testing.T) {
	var one holder
	if got := one.Do(put("a", "1")); got != done || one.Len() != 1 {
		t.Errorf("6.1: Do of an embedded table: %+v", got)
	}
	two := one
	two.Do(put("a", "2"))
	two.Do(put("b", "3"))
	three := holder{Table: Of(pairs("z=9")...), ID: 3}
	holds(t, "6.2: an embedded table", &one.Table, pairs("a=1"))
	holds(t, "6.2: an embedded table's copy", &two.Table, pairs("a=2", "b=3"))
	if got := three.Pairs(); !slices.Equal(got, pairs("z=9")) {
		t.Errorf("6.1: Pairs of an embedded table: %q", got)
	}
}

func anyOp(r *rand.Rand) api.Op {
	keys := []string{"a", "b", "c", "d", "e", "f", "g", "h", "i", "aa", "\x80", "B"}
	values := []string{"", "1", "2", strings.Repeat("v", api.MaxValue)}
	o := api.Op{Kind: api.Get + r.Intn(4), Key: keys[r.Intn(len(keys))]}
	if o.Kind == api.Put || o.Kind == api.Cas {
		o.Value = values[r.Intn(len(values))]
	}
	if o.Kind == api.Cas {
		o.Old = values[r.Intn(len(values))]
	}
	switch r.Intn(30) {
	case 0:
		o.Kind = kinds[r.Intn(len(kinds))]
	case 1:
		o.Key = strings.Repeat("k", r.Intn(12))
	case 2:
		o.Value = strings.Repeat("v", r.Intn(20))
	case 3:
		o.Old = strings.Repeat("o", r.Intn(20))
	}
	return o
}

// Now and then the run goes on with a copy; the old table is told other things, and forgotten.
func TestAnyRunIsThatOfAMap(t *testing.T) {
	r := rand.New(rand.NewSource(7))
	told := map[api.Errno]int{}
	for range 200 {
		x, p := &Table{}, plain{}
		for range 200 {
			o := anyOp(r)
			want := p.do(o)
			told[want.Why]++
			does(t, "6.1: any run", x, o, want)
			holds(t, "6.1: any run", x, p.pairs())
			if r.Intn(20) == 0 {
				fresh := *x
				for range 5 {
					x.Do(anyOp(r))
				}
				x = &fresh
				holds(t, "6.2: any run, a copy", x, p.pairs())
			}
			if same := Of(x.Pairs()...); same != *x {
				t.Fatalf("6.1: any run: %q has more than its pairs", x.Pairs())
			}
		}
	}
	for _, why := range []api.Errno{api.OK, api.ErrArg, api.ErrNone, api.ErrFull, api.ErrOther} {
		if told[why] == 0 {
			t.Errorf("a run without error %d", why)
		}
	}
}

func TestTheSameRunAnswersTheSame(t *testing.T) {
	one, two := &Table{}, &Table{}
	first, second := rand.New(rand.NewSource(8)), rand.New(rand.NewSource(8))
	for range 2000 {
		o := anyOp(first)
		does(t, "R4: the same run", one, o, two.Do(anyOp(second)))
		if !slices.Equal(one.Pairs(), two.Pairs()) {
			t.Fatalf("R4: the same run: %q, %q", one.Pairs(), two.Pairs())
		}
	}
}

func TestAskingChangesNothing(t *testing.T) {
	for name, start := range starts() {
		x := made(t, start)
		old := *x
		for range 3 {
			x.Len()
			x.Pairs()
			Right(put("a", "1"))
			x.Do(get("a"))
			x.Do(get("nobody"))
		}
		if *x != old {
			t.Errorf("6.1: %s: asking changed it: %q", name, x.Pairs())
		}
	}
}

func TestWhatIsHandedInStays(t *testing.T) {
	list := pairs("c=3", "a=1", "=", "b=2", "a=4", "abcdefghi=", "d=spare", "e=room")
	old := slices.Clone(list)
	x := Of(list[:6]...)
	holds(t, "6.1: Of", &x, pairs("a=4", "b=2", "c=3"))
	for _, o := range []api.Op{put("d", "9"), put("c", "8"), del("a"), cas("b", "7", "2"), put("0", "6")} {
		does(t, "6.1: a run", &x, o, done)
	}
	holds(t, "6.1: a run", &x, pairs("0=6", "b=7", "c=8", "d=9"))
	if !slices.Equal(list, old) {
		t.Errorf("R2: the list that was spread was changed: %q", list)
	}
	full := starts()["full"]
	long := append(slices.Clone(full), pairs("y=9", "z=10")...)
	old = slices.Clone(long)
	x = Of(long...)
	does(t, "6.1: a full table", &x, del("a"), done)
	does(t, "6.1: a full table", &x, put("x", "1"), done)
	if !slices.Equal(long, old) {
		t.Errorf("R2: a list that is longer than there is room for was changed: %q", long)
	}
}

// spoil overwrites l, its spare room too.
func spoil(l []api.Pair) {
	l = l[:cap(l)]
	for k := range l {
		l[k] = api.Pair{Key: "!", Value: "!"}
	}
}

func TestAListThatIsSpreadIsNotKept(t *testing.T) {
	for name, start := range starts() {
		list := append(slices.Clone(start), pairs("spare=", "room=")...)
		x := Of(list[:len(start)]...)
		spoil(list)
		holds(t, "R2: the list was overwritten, "+name, &x, start)
		for _, o := range someChanges(start) {
			x.Do(o)
		}
		for _, pair := range list {
			if pair != (api.Pair{Key: "!", Value: "!"}) {
				t.Fatalf("R2: %s: a call behind Of writes to its list: %q", name, list)
			}
		}
	}
}

func TestWhatPairsAnswersIsNewMemory(t *testing.T) {
	for name, start := range starts() {
		x := made(t, start)
		fresh := *x
		first, second := x.Pairs(), x.Pairs()
		spoil(first)
		_ = append(first, pairs("more=")...)
		if !slices.Equal(second, start) {
			t.Errorf("R2: %s: two answers of Pairs are one: %q", name, second)
		}
		holds(t, "R2: an answer was overwritten, "+name, x, start)
		holds(t, "R2: an answer was overwritten, not a copy, "+name, &fresh, start)
		if *x != fresh {
			t.Errorf("R2: %s: a table's spare room was overwritten", name)
		}
		for _, o := range someChanges(start) {
			x.Do(o)
		}
		if !slices.Equal(second, start) {
			t.Errorf("R2: %s: an answer of Pairs follows its table: %q", name, second)
		}
		for _, pair := range first {
			if pair != (api.Pair{Key: "!", Value: "!"}) {
				t.Errorf("R2: %s: a call behind Pairs writes to its answer: %q", name, first)
			}
		}
	}
}

func TestTwoTablesKnowNothingOfOneAnother(t *testing.T) {
	list := pairs("a=1", "b=2")
	one, two := Of(list...), Of(list...)
	var three Table
	does(t, "R7: one", &one, put("a", "one"), done)
	does(t, "R7: the other one", &two, del("b"), done)
	does(t, "R7: a third one", &three, get("a"), none)
	holds(t, "R7: one", &one, pairs("a=one", "b=2"))
	holds(t, "R7: the other one", &two, pairs("a=1"))
	holds(t, "R7: a third one", &three, nil)
	full := Of(starts()["full"]...)
	does(t, "R7: one that is not full", &one, put("c", "3"), done)
	holds(t, "R7: a full one", &full, starts()["full"])
	two = Of(one.Pairs()...)
	does(t, "R7: one", &one, del("a"), done)
	holds(t, "R7: pairs of another table", &two, pairs("a=one", "b=2", "c=3"))
}

func FuzzDo(f *testing.F) {
	f.Add(api.Put, "a", "1", "", api.Cas, "a", "2", "3")
	f.Add(api.Put, "key", "", "", api.Del, "key", "", "")
	f.Add(0, "", "", "", 5, "abcdefghi", strings.Repeat("v", 17), strings.Repeat("o", 17))
	f.Fuzz(func(t *testing.T, kind int, key, value, old string, kind2 int, key2, value2, old2 string) {
		for name, start := range starts() {
			x, p := made(t, start), plainOf(start)
			for _, o := range []api.Op{{Kind: kind, Key: key, Value: value, Old: old}, {Kind: kind2, Key: key2, Value: value2, Old: old2}} {
				if Right(o) != plainRight(o) {
					t.Fatalf("6.1: Right(%#v): %t", o, Right(o))
				}
				does(t, "6.1: any operation, "+name, x, o, p.do(o))
				holds(t, "6.1: any operation, "+name, x, p.pairs())
			}
		}
	})
}
