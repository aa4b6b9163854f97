package hash

import (
	"math"
	"math/big"
	"math/rand"
	"slices"
	"strings"
	"testing"

	"osmosis/api"
)

// sums were worked out apart from this package, by another program.
var sums = []struct {
	parts []string
	sum   uint64
}{
	{nil, 0xcbf29ce484222325},
	{[]string{""}, 0xaf62bd4c860004df},
	{[]string{"", ""}, 0x04cd8807b209f9ed},
	{[]string{"", "", ""}, 0x3337121386f1fab7},
	{[]string{"a"}, 0x089ce207b546a4e4},
	{[]string{"b"}, 0x08a51407b54be85f},
	{[]string{"ab"}, 0xe72103190543af1e},
	{[]string{"ba"}, 0x0039c219133a3764},
	{[]string{"a", "b"}, 0x54bad786f53d7876},
	{[]string{"b", "a"}, 0xe2842996289178ee},
	{[]string{"a", ""}, 0xe939f719070be26c},
	{[]string{"", "a"}, 0x2f62ec1383b2ef6e},
	{[]string{"abc"}, 0xfc16bb83ee05a171},
	{[]string{"ab", "c"}, 0x569c87343b6b3f05},
	{[]string{"a", "bc"}, 0x3ac50a52bab20e79},
	{[]string{"a", "b", "c"}, 0xd42d788db87b275d},
	{[]string{"key"}, 0x581ad4d75cbf7404},
	{[]string{"foobar"}, 0x34521ca71689dc38},
	{[]string{"\x00"}, 0x08318807b4e9bced},
	{[]string{"\x00\x00"}, 0xd94c12186c0d7cb7},
	{[]string{"\x7f"}, 0x08e5a607b582c46a},
	{[]string{"\x80"}, 0x09e48807b65b516d},
	{[]string{"\xff"}, 0x0a98a607b6f458ea},
	{[]string{"\xff\xfe\x80"}, 0x8e316e65372c57b0},
	{[]string{"\xc3\xa9"}, 0x5fec231c1dfcaeb3},
	{[]string{"\xe6\x97\xa5\xe6\x9c\xac"}, 0x9bed062a79e9b363},
	{[]string{everyByte()}, 0x5ad384d356b6b3df},
	{[]string{strings.Repeat("x", 1000)}, 0xaf2f590e9cc3d7bf},
}

func everyByte() string {
	b := make([]byte, 256)
	for k := range b {
		b[k] = byte(k)
	}
	return string(b)
}

// plain is Sum by numbers without a bound, brought within 64 bits step by step.
func plain(parts []string) uint64 {
	sum := new(big.Int).SetUint64(0xcbf29ce484222325)
	prime := big.NewInt(0x100000001b3)
	bound := new(big.Int).Lsh(big.NewInt(1), 64)
	step := func(c int64) {
		sum.Xor(sum, big.NewInt(c))
		sum.Mul(sum, prime)
		sum.Mod(sum, bound)
	}
	for _, part := range parts {
		for _, c := range []byte(part) {
			step(int64(c))
		}
		step(256)
	}
	return sum.Uint64()
}

func TestSumOfKnownParts(t *testing.T) {
	for _, c := range sums {
		if got := Sum(c.parts...); got != c.sum {
			t.Errorf("2.1: Sum(%q): %016x, not %016x", c.parts, got, c.sum)
		}
	}
}

func TestSumOfNoPartIsTheStart(t *testing.T) {
	for name, got := range map[string]uint64{
		"nothing":       Sum(),
		"nil":           Sum(nil...),
		"an empty list": Sum([]string{}...),
	} {
		if got != 0xcbf29ce484222325 {
			t.Errorf("2.1: Sum of %s: %016x", name, got)
		}
	}
}

func TestSumOfEachByte(t *testing.T) {
	seen := map[uint64]int{}
	for c := range 256 {
		one := string([]byte{byte(c)})
		got := Sum(one)
		if want := plain([]string{one}); got != want {
			t.Errorf("2.1: Sum of the byte %d: %016x, not %016x", c, got, want)
		}
		if before, twice := seen[got]; twice {
			t.Errorf("2.1: the bytes %d and %d have one Sum", before, c)
		}
		seen[got] = c
	}
}

func TestPartsAreNotOnePart(t *testing.T) {
	for _, l := range [][][]string{
		{nil, {""}, {"", ""}, {"", "", ""}},
		{{"ab"}, {"a", "b"}, {"", "ab"}, {"ab", ""}, {"a", "", "b"}},
		{{"abc"}, {"a", "bc"}, {"ab", "c"}, {"a", "b", "c"}},
		{{"\x00"}, {"\x00", ""}, {"", "\x00"}, {"\x00\x00"}, {"\x00", "\x00"}},
		// An end that were cut to a byte would be 0, or 1 and 0.
		{{"a", "b"}, {"a\x00b"}, {"a\x01\x00b"}, {"a\x00\x01b"}},
	} {
		for k, one := range l {
			for _, other := range l[k+1:] {
				if Sum(one...) == Sum(other...) {
					t.Errorf("2.1: Sum(%q) and Sum(%q) are one", one, other)
				}
			}
		}
	}
}

func TestAListThatIsSpreadIsItsParts(t *testing.T) {
	l := []string{"a", "", "bc", "\xff"}
	if Sum(l...) != Sum("a", "", "bc", "\xff") {
		t.Errorf("2.1: Sum of a list that is spread: %016x", Sum(l...))
	}
	for k := range l {
		if got, want := Sum(l[:k]...), plain(l[:k]); got != want {
			t.Errorf("2.1: Sum(%q): %016x, not %016x", l[:k], got, want)
		}
	}
}

func TestSumGoesRound(t *testing.T) {
	for n := range 300 {
		part := strings.Repeat("\xff", n)
		if got, want := Sum(part), plain([]string{part}); got != want {
			t.Errorf("2.1: Sum of %d bytes: %016x, not %016x", n, got, want)
		}
		many := slices.Repeat([]string{""}, n)
		if got, want := Sum(many...), plain(many); got != want {
			t.Errorf("2.1: Sum of %d empty parts: %016x, not %016x", n, got, want)
		}
	}
}

func someParts(r *rand.Rand) []string {
	l := make([]string, r.Intn(6))
	for k := range l {
		b := make([]byte, r.Intn(12))
		r.Read(b)
		l[k] = string(b)
	}
	return l
}

func TestSumOfAnyParts(t *testing.T) {
	r := rand.New(rand.NewSource(2))
	for range 5000 {
		l := someParts(r)
		if got, want := Sum(l...), plain(l); got != want {
			t.Fatalf("2.1: Sum(%q): %016x, not %016x", l, got, want)
		}
	}
}

// The sum of "" is above 2^63, where a modulo of signed numbers would go wrong.
func TestShardOfKnownKeys(t *testing.T) {
	counts := []int{1, 2, 3, 4, 5, 6, 7, 8, 1000, 1 << 31, 1 << 32, 1 << 40, 1 << 62, math.MaxInt}
	for key, want := range map[string][]int{
		"":     {0, 1, 2, 3, 4, 5, 5, 7, 439, 100664543, 2248148191, 328665662687, 3414499603863569631, 3414499603863569632},
		"a":    {0, 0, 2, 0, 0, 2, 4, 4, 100, 893822180, 3041305828, 33106076900, 620619371404240100, 620619371404240100},
		"b":    {0, 1, 0, 3, 3, 3, 2, 7, 103, 894167135, 3041650783, 33106421855, 622926146799659103, 622926146799659103},
		"key":  {0, 0, 2, 0, 4, 2, 0, 4, 524, 1556050948, 1556050948, 924974019588, 1736934627743855620, 6348620646171243524},
		"\x00": {0, 1, 0, 1, 3, 3, 0, 5, 373, 887733485, 3035217133, 33099988205, 590402592843611373, 590402592843611373},
		"\xff": {0, 0, 0, 2, 3, 0, 2, 2, 818, 921983210, 3069466858, 33134237930, 763542688903747818, 763542688903747818},
	} {
		for k, n := range counts {
			if got := Shard(key, n); got != want[k] {
				t.Errorf("2.1: Shard(%q, %d): %d, not %d", key, n, got, want[k])
			}
		}
	}
}

func TestShardIsTheSumModuloShards(t *testing.T) {
	r := rand.New(rand.NewSource(3))
	for range 2000 {
		b := make([]byte, r.Intn(api.MaxKey+4))
		r.Read(b)
		key := string(b)
		for _, n := range []int{1, 2, 3, api.MaxShards, 1 + r.Intn(1000), 1 + r.Intn(math.MaxInt), math.MaxInt} {
			sum := new(big.Int).SetUint64(plain([]string{key}))
			want := sum.Mod(sum, big.NewInt(int64(n))).Int64()
			if got := Shard(key, n); int64(got) != want {
				t.Fatalf("2.1: Shard(%q, %d): %d, not %d", key, n, got, want)
			}
		}
	}
}

func TestShardOfNoShardsIsZero(t *testing.T) {
	for _, key := range []string{"", "a", "key", "\x00", "\xff", everyByte()} {
		for _, n := range []int{0, -1, -2, -5, -api.MaxShards, math.MinInt + 1, math.MinInt} {
			if got := Shard(key, n); got != 0 {
				t.Errorf("2.1: Shard(%q, %d): %d", key, n, got)
			}
		}
	}
}

func TestAListThatIsSpreadStays(t *testing.T) {
	whole := []string{"a", "", "bc", "spare", "room"}
	before := slices.Clone(whole)
	first := Sum(whole[:3]...)
	if !slices.Equal(whole, before) {
		t.Errorf("R2: Sum changed the list that was spread: %q", whole)
	}
	if again := Sum(whole[:3]...); again != first {
		t.Errorf("R4: Sum of one list: %016x, then %016x", first, again)
	}
}

func TestAListThatIsSpreadIsNotKept(t *testing.T) {
	l := []string{"a", "b"}
	Sum(l...)
	l[0], l[1] = "x", "y"
	if got := Sum("a", "b"); got != 0x54bad786f53d7876 {
		t.Errorf("R2: Sum behind a change to an earlier list: %016x", got)
	}
	if got := Sum(l...); got != plain(l) {
		t.Errorf("R2: Sum of a list that was changed: %016x", got)
	}
}

func FuzzSum(f *testing.F) {
	f.Add("", "", 1)
	f.Add("a", "\xff", api.MaxShards)
	f.Add("key", "\x00", math.MinInt)
	f.Fuzz(func(t *testing.T, a, b string, shards int) {
		if got, want := Sum(a, b), plain([]string{a, b}); got != want {
			t.Errorf("2.1: Sum(%q, %q): %016x, not %016x", a, b, got, want)
		}
		if got := Shard(a, shards); got < 0 || got >= max(shards, 1) {
			t.Errorf("2.1: Shard(%q, %d): %d", a, shards, got)
		}
	})
}
