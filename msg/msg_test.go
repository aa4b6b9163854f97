package msg

import (
	"bytes"
	"encoding/binary"
	"math"
	"math/rand"
	"reflect"
	"slices"
	"strconv"
	"strings"
	"testing"

	"osmosis/api"
	"osmosis/codec"
)

const (
	value16 = "sixteen bytes..."
	value17 = "seventeen bytes.."
	most    = "\xff\xff\xff\xff\xff\xff\xff\xff\x3f" // api.Most, laid
	far     = "\x80\x80\x80\x80\x80\x20"             // api.Far, laid
)

// laid is a message that is right, with its parts as bytes: one for each number, one for each text.
type laid struct {
	name  string
	m     api.Msg
	parts []string
}

func (l laid) bytes() []byte { return []byte(strings.Join(l.parts, "")) }

func zeros(count int) []string { return slices.Repeat([]string{"\x00"}, count) }

func put(client, seq int, key, value string) api.Req {
	return api.Req{Client: client, Seq: seq, Op: api.Op{Kind: api.Put, Key: key, Value: value}}
}

func sess(client, seq int, why api.Errno, value string) api.Sess {
	return api.Sess{Client: client, Seq: seq, Answer: api.Answer{Why: why, Value: value}}
}

// full is a message with something in each field, each another.
func full() api.Msg {
	return api.Msg{
		Kind: api.Reply, From: 101, To: 300, Shard: 3, Epoch: 4, Weight: 5, Load: 6, Nonce: 7, Drain: true,
		Req:    api.Req{Client: 2, Seq: 128, Op: api.Op{Kind: api.Cas, Key: "k", Value: "new", Old: "o"}},
		Answer: api.Answer{Why: api.ErrOther, Value: "is"},
		Path:   []int{4, 0, 200},
		Table: []api.Entry{
			{Inc: 1, Status: api.Dead, Stamp: 9, Load: 8, Drain: true},
			{Inc: api.Far, Status: api.Suspect, Stamp: 130, Load: 2}},
		Image: api.Image{Shard: 5, Epoch: 300, Pairs: []api.Pair{{Key: "a", Value: "1"}, {Key: "b", Value: value16}},
			Sess: []api.Sess{sess(0, 3, api.OK, "v"), sess(3, 11, api.ErrNone, "")}},
	}
}

func fullParts() []string {
	return []string{"\x09", "\x65", "\xac\x02", "\x03", "\x04", "\x05", "\x06", "\x07", "\x01",
		"\x02", "\x80\x01", "\x04", "\x01k", "\x03new", "\x01o", "\x06", "\x02is",
		"\x03", "\x04", "\x00", "\xc8\x01",
		"\x02", "\x01", "\x02", "\x09", "\x08", "\x01", far, "\x01", "\x82\x01", "\x02", "\x00",
		"\x05", "\xac\x02", "\x02", "\x01a", "\x011", "\x01b", "\x10" + value16,
		"\x02", "\x00", "\x03", "\x00", "\x01v", "\x03", "\x0b", "\x04", "\x00"}
}

// greatest is a message that has as much in it as may be.
func greatest() api.Msg {
	one := api.Entry{Inc: api.Most, Status: api.Dead, Stamp: api.Most, Load: api.Most, Drain: true}
	m := api.Msg{
		Kind: api.Learn, From: api.Most, To: api.Most, Shard: api.Most, Epoch: api.Most, Weight: api.Most, Load: api.Most, Nonce: api.Most, Drain: true,
		Req:    api.Req{Client: 3, Seq: api.Most, Op: api.Op{Kind: api.Cas, Key: "8 bytes.", Value: value16, Old: "old sixteen byte"}},
		Answer: api.Answer{Why: api.ErrState, Value: value16},
		Path:   slices.Repeat([]int{api.Most}, api.MaxHosts),
		Table:  slices.Repeat([]api.Entry{one}, api.MaxHosts),
		Image:  api.Image{Shard: 5, Epoch: api.Far},
	}
	for k := range api.MaxKeys {
		m.Image.Pairs = append(m.Image.Pairs, api.Pair{Key: "8 bytes" + strconv.Itoa(k), Value: value16})
	}
	for k := range api.MaxClients {
		m.Image.Sess = append(m.Image.Sess, sess(k, api.Most, api.ErrOther, value16))
	}
	return m
}

func greatestParts() []string {
	l := slices.Concat([]string{"\x0a"}, slices.Repeat([]string{most}, 7), []string{"\x01"},
		[]string{"\x03", most, "\x04", "\x088 bytes.", "\x10" + value16, "\x10old sixteen byte", "\x0b", "\x10" + value16},
		[]string{"\x05"}, slices.Repeat([]string{most}, 5),
		[]string{"\x05"}, slices.Repeat([]string{most, "\x02", most, most, "\x01"}, 5),
		[]string{"\x05", far, "\x08"})
	for k := range 8 {
		l = append(l, "\x088 bytes"+strconv.Itoa(k), "\x10"+value16)
	}
	l = append(l, "\x04")
	for k := range 4 {
		l = append(l, string(byte(k)), most, "\x06", "\x10"+value16)
	}
	return l
}

func messages() []laid {
	return []laid{
		{"zero but Kind 1", api.Msg{Kind: api.Ping}, append([]string{"\x01"}, zeros(22)...)},
		{"a Ping", api.Msg{Kind: api.Ping, From: 1, To: 2, Load: 12, Nonce: 128, Drain: true, Table: []api.Entry{{}, {Inc: 1, Status: api.Suspect, Stamp: 2, Load: 3}}},
			slices.Concat([]string{"\x01", "\x01", "\x02", "\x00", "\x00", "\x00", "\x0c", "\x80\x01", "\x01"}, zeros(9), []string{"\x02"}, zeros(5), []string{"\x01", "\x01", "\x02", "\x03", "\x00"}, zeros(4))},
		{"an Offer", api.Msg{Kind: api.Offer, Shard: 5, Epoch: api.Far, Weight: 9}, slices.Concat([]string{"\x03", "\x00", "\x00", "\x05", far, "\x09"}, zeros(17))},
		{"a Transfer", api.Msg{Kind: api.Transfer, To: 4, Image: api.Image{Shard: 1, Epoch: 2, Pairs: []api.Pair{{Key: "a"}}}},
			slices.Concat([]string{"\x06", "\x00", "\x04"}, zeros(16), []string{"\x01", "\x02", "\x01", "\x01a", "\x00", "\x00"})},
		{"an Ask", api.Msg{Kind: api.Ask, From: api.ClientBase, Req: put(1, 3, "key", "\x00\xff\x80")},
			slices.Concat([]string{"\x08", "\x64"}, zeros(7), []string{"\x01", "\x03", "\x02", "\x03key", "\x03\x00\xff\x80"}, zeros(9))},
		{"a Reply", api.Msg{Kind: api.Reply, Answer: api.Answer{Why: api.ErrRetry, Value: "v"}, Path: []int{0}},
			slices.Concat([]string{"\x09"}, zeros(14), []string{"\x08", "\x01v", "\x01", "\x00"}, zeros(5))},
		{"full", full(), fullParts()},
		{"the greatest one", greatest(), greatestParts()},
	}
}

// number is a number as bytes; one that may not be makes bytes that are none.
func number(n int) string { return string(binary.AppendUvarint(nil, uint64(n))) }

func numbers(l ...int) []string {
	var s []string
	for _, n := range l {
		s = append(s, number(n))
	}
	return s
}

func text(s string) string { return number(len(s)) + s }

func oneOf(on bool) int { return map[bool]int{true: 1}[on] }

// plainParts is a message, right or not, as laid apart from the package.
func plainParts(m api.Msg) []string {
	l := numbers(m.Kind, m.From, m.To, m.Shard, m.Epoch, m.Weight, m.Load, m.Nonce, oneOf(m.Drain))
	l = append(l, numbers(m.Req.Client, m.Req.Seq, m.Req.Op.Kind)...)
	l = append(l, text(m.Req.Op.Key), text(m.Req.Op.Value), text(m.Req.Op.Old))
	l = append(l, number(int(m.Answer.Why)), text(m.Answer.Value), number(len(m.Path)))
	l = append(l, numbers(m.Path...)...)
	l = append(l, number(len(m.Table)))
	for _, x := range m.Table {
		l = append(l, numbers(x.Inc, x.Status, x.Stamp, x.Load, oneOf(x.Drain))...)
	}
	l = append(l, numbers(m.Image.Shard, m.Image.Epoch, len(m.Image.Pairs))...)
	for _, p := range m.Image.Pairs {
		l = append(l, text(p.Key), text(p.Value))
	}
	l = append(l, number(len(m.Image.Sess)))
	for _, s := range m.Image.Sess {
		l = append(l, number(s.Client), number(s.Seq), number(int(s.Answer.Why)), text(s.Answer.Value))
	}
	return l
}

func plainLay(m api.Msg) []byte { return []byte(strings.Join(plainParts(m), "")) }

func plainRight(m api.Msg) bool {
	all := []int{m.From, m.To, m.Shard, m.Epoch, m.Weight, m.Load, m.Nonce}
	all = append(all, m.Path...)
	for _, x := range m.Table {
		if x.Status != 0 && x.Status != 1 && x.Status != 2 {
			return false
		}
		all = append(all, x.Inc, x.Stamp, x.Load)
	}
	for _, n := range all {
		if n < 0 || n > 1<<62-1 {
			return false
		}
	}
	return m.Kind > 0 && m.Kind < 11 && len(m.Path) < 6 && len(m.Table) < 6 &&
		codec.RightReq(m.Req) && codec.RightAnswer(m.Answer) && codec.RightImage(m.Image)
}

// plain reads part by part by means of the library; it leaves off by a panic of the error.
type plain struct{ b []byte }

func must(ok bool, e api.Errno) {
	if !ok {
		panic(e)
	}
}

func (p *plain) number() int {
	must(slices.ContainsFunc(p.b, func(c byte) bool { return c < 0x80 }), api.ErrShort)
	n, size := binary.Uvarint(p.b)
	must(size > 0 && n <= api.Most && len(binary.AppendUvarint(nil, n)) == size, api.ErrForm)
	p.b = p.b[size:]
	return int(n)
}

func (p *plain) bit() bool {
	n := p.number()
	must(n < 2, api.ErrForm)
	return n == 1
}

func (p *plain) count() int {
	n := p.number()
	must(n < 6, api.ErrForm)
	return n
}

func (p *plain) message() api.Msg {
	var m api.Msg
	var e api.Errno
	for _, to := range []*int{&m.Kind, &m.From, &m.To, &m.Shard, &m.Epoch, &m.Weight, &m.Load, &m.Nonce} {
		*to = p.number()
	}
	m.Drain = p.bit()
	m.Req, p.b, e = codec.ReadReq(p.b)
	must(e == api.OK, e)
	m.Answer, p.b, e = codec.ReadAnswer(p.b)
	must(e == api.OK, e)
	for range p.count() {
		m.Path = append(m.Path, p.number())
	}
	for range p.count() {
		var x api.Entry
		for _, to := range []*int{&x.Inc, &x.Status, &x.Stamp, &x.Load} {
			*to = p.number()
		}
		x.Drain = p.bit()
		m.Table = append(m.Table, x)
	}
	m.Image, p.b, e = codec.ReadImage(p.b)
	must(e == api.OK, e)
	must(len(p.b) == 0 && plainRight(m), api.ErrForm)
	return m
}

func plainRead(b []byte) (m api.Msg, e api.Errno) {
	defer func() {
		if fault := recover(); fault != nil {
			m, e = api.Msg{}, fault.(api.Errno)
		}
	}()
	p := &plain{b}
	return p.message(), api.OK
}

// plainSame asks the library, of which nil and an empty list are two.
func plainSame(a, b api.Msg) bool { return reflect.DeepEqual(noNil(a), noNil(b)) }

func noNil(m api.Msg) api.Msg {
	m.Path, m.Table = append([]int{}, m.Path...), append([]api.Entry{}, m.Table...)
	m.Image.Pairs, m.Image.Sess = append([]api.Pair{}, m.Image.Pairs...), append([]api.Sess{}, m.Image.Sess...)
	return m
}

// asks reads b, and wants this of it.
func asks(t *testing.T, what string, b []byte, m api.Msg, e api.Errno) {
	t.Helper()
	got, gotE := Read(b)
	if gotE != e || !plainSame(got, m) || !Same(got, m) {
		t.Fatalf("10.1: Read of %s: % .200x: %+v, %d, not %+v, %d", what, b, got, gotE, m, e)
	}
}

// refuses reads b, and wants this error of it, and nothing beside.
func refuses(t *testing.T, what string, b []byte, e api.Errno) {
	t.Helper()
	asks(t, what, b, api.Msg{}, e)
}

func holdAgainstPlain(t *testing.T, b []byte) api.Errno {
	t.Helper()
	m, e := plainRead(b)
	asks(t, "any bytes", b, m, e)
	return e
}

// isRight wants that m is laid, and read again.
func isRight(t *testing.T, what string, m api.Msg) {
	t.Helper()
	b := Lay(m)
	if !Right(m) || !plainRight(m) || !bytes.Equal(b, plainLay(m)) {
		t.Fatalf("10.1: %s: %t, laid as % x, not % x", what, Right(m), b, plainLay(m))
	}
	asks(t, what, b, m, api.OK)
}

// isWrong wants that m is not laid, and not read where it is laid all the same.
func isWrong(t *testing.T, what string, m api.Msg) {
	t.Helper()
	if b := Lay(m); Right(m) || plainRight(m) || b != nil {
		t.Fatalf("10.1: %s: %t, laid as % x, not as nil", what, Right(m), b)
	}
	refuses(t, what, plainLay(m), api.ErrForm)
}

func TestTheLimits(t *testing.T) {
	if api.Ping != 1 || api.Learn != 10 || api.MaxHosts != 5 || api.Alive != 0 || api.Dead != 2 || api.Most != 1<<62-1 || api.ErrState != 11 || api.MaxValue != 16 {
		t.Error("package api was turned: these tests reckon with its numbers")
	}
	if len(value16) != 16 || len(value17) != 17 || number(api.Most) != most || number(api.Far) != far {
		t.Error("the tests' own texts are not what they say")
	}
}

func TestTheExample(t *testing.T) {
	want := "\x01" + strings.Repeat("\x00", 22)
	if got := Lay(api.Msg{Kind: 1}); string(got) != want || len(got) != 23 {
		t.Errorf("10.1: a message that is zero but for Kind 1: % x", got)
	}
	asks(t, "zero but Kind 1", []byte(want), api.Msg{Kind: 1}, api.OK)
	isWrong(t, "the zero one", api.Msg{})
}

func TestLay(t *testing.T) {
	for _, one := range messages() {
		if got := Lay(one.m); !bytes.Equal(got, one.bytes()) {
			t.Errorf("10.1: Lay of %s: % x, not % x", one.name, got, one.bytes())
		}
		if !slices.Equal(plainParts(one.m), one.parts) {
			t.Errorf("%s, laid plainly: %q, not %q", one.name, plainParts(one.m), one.parts)
		}
		isRight(t, one.name, one.m)
	}
}

func TestReadTellsWhatWasLaid(t *testing.T) {
	for _, one := range messages() {
		asks(t, one.name, one.bytes(), one.m, api.OK)
		m, _ := Read(one.bytes())
		if again := Lay(m); !bytes.Equal(again, one.bytes()) {
			t.Errorf("10.2: %s, laid again: % x, not % x", one.name, again, one.bytes())
		}
	}
}

func TestReadOfWhatIsCutIsShort(t *testing.T) {
	for _, one := range messages() {
		b := Lay(one.m)
		for k := range b {
			refuses(t, one.name+", cut at "+strconv.Itoa(k), b[:k:k], api.ErrShort)
			refuses(t, one.name+", cut at "+strconv.Itoa(k)+", and roomy", b[:k], api.ErrShort)
		}
	}
	refuses(t, "nil", nil, api.ErrShort)
	refuses(t, "no byte", []byte{}, api.ErrShort)
}

func TestReadOfWhatHasSomethingBehind(t *testing.T) {
	for _, one := range messages() {
		for _, behind := range []string{"\x00", "\x01", "\x80", "\xff", "\x80\x00", "\x00\x00", string(one.bytes()), strings.Repeat("\x00", 5000)} {
			refuses(t, one.name+", and something behind", append(one.bytes(), behind...), api.ErrForm)
		}
	}
}

func TestEachKind(t *testing.T) {
	for kind := -3; kind < 300; kind++ {
		for _, m := range []api.Msg{{}, full()} {
			m.Kind = kind
			what := "Kind " + strconv.Itoa(kind)
			if kind >= api.Ping && kind <= api.Learn {
				isRight(t, what, m)
			} else {
				isWrong(t, what, m)
			}
		}
	}
	for _, kind := range []int{math.MinInt, -1 << 32, 1<<32 + 1, api.Most, api.Most + 1, math.MaxInt} {
		isWrong(t, "Kind "+strconv.Itoa(kind), api.Msg{Kind: kind})
	}
}

// The Kind of a Req is none of the message.
func TestTheKindOfAReqIsAnother(t *testing.T) {
	for kind := range 12 {
		for op := range 6 {
			m := api.Msg{Kind: kind, Req: api.Req{Seq: 1, Op: api.Op{Kind: op, Key: "a"}}}
			if want := kind >= 1 && kind <= 10 && op >= 1 && op <= 4; Right(m) != want || (Lay(m) != nil) != want {
				t.Errorf("10.1: Kind %d, of the Req %d: %t", kind, op, Right(m))
			}
		}
	}
}

// field is a number of a message, and where in full it lies.
type field struct {
	name string
	of   func(m *api.Msg) *int
}

func fields() []field {
	l := []field{
		{"From", func(m *api.Msg) *int { return &m.From }},
		{"To", func(m *api.Msg) *int { return &m.To }},
		{"Shard", func(m *api.Msg) *int { return &m.Shard }},
		{"Epoch", func(m *api.Msg) *int { return &m.Epoch }},
		{"Weight", func(m *api.Msg) *int { return &m.Weight }},
		{"Load", func(m *api.Msg) *int { return &m.Load }},
		{"Nonce", func(m *api.Msg) *int { return &m.Nonce }},
	}
	for k := range full().Path {
		l = append(l, field{"Path " + strconv.Itoa(k), func(m *api.Msg) *int { return &m.Path[k] }})
	}
	for k := range full().Table {
		l = append(l, field{"Inc " + strconv.Itoa(k), func(m *api.Msg) *int { return &m.Table[k].Inc }})
		l = append(l, field{"Stamp " + strconv.Itoa(k), func(m *api.Msg) *int { return &m.Table[k].Stamp }})
		l = append(l, field{"Load " + strconv.Itoa(k), func(m *api.Msg) *int { return &m.Table[k].Load }})
	}
	return l
}

func TestEachNumber(t *testing.T) {
	for _, f := range fields() {
		for _, n := range []int{0, 1, 5, 6, 127, 128, 256, 1 << 14, api.Far, api.Far + 1, 1 << 61, api.Most - 1, api.Most} {
			m := full()
			*f.of(&m) = n
			isRight(t, f.name+" "+strconv.Itoa(n), m)
			if x, _ := Read(Lay(m)); *f.of(&x) != n {
				t.Errorf("10.2: %s %d is read as %d", f.name, n, *f.of(&x))
			}
		}
		for _, n := range []int{-1, -2, math.MinInt, math.MinInt + 1, api.Most + 1, math.MaxInt} {
			m := full()
			*f.of(&m) = n
			isWrong(t, f.name+" "+strconv.Itoa(n), m)
		}
	}
}

func TestHowManyInPathAndTable(t *testing.T) {
	for _, start := range []api.Msg{{Kind: api.Ask}, full()} {
		for count := range 20 {
			path, table := start, start
			path.Path, table.Table = make([]int, count), make([]api.Entry, count)
			what := strconv.Itoa(count) + " in "
			if count <= api.MaxHosts {
				isRight(t, what+"Path", path)
				isRight(t, what+"Table", table)
			} else {
				isWrong(t, what+"Path", path)
				isWrong(t, what+"Table", table)
			}
		}
		for _, count := range []int{256, 256 + 5, 1 << 16} {
			path, table := start, start
			path.Path, table.Table = make([]int, count), make([]api.Entry, count)
			isWrong(t, "too many in Path", path)
			isWrong(t, "too many in Table", table)
		}
	}
}

func TestEachStatus(t *testing.T) {
	for at := range full().Table {
		for _, status := range []int{math.MinInt, -256, -2, -1, 0, 1, 2, 3, 4, 256, 257, 1 << 32, api.Most, api.Most + 1, math.MaxInt} {
			m := full()
			m.Table[at].Status = status
			what := "Status " + strconv.Itoa(status)
			if status >= api.Alive && status <= api.Dead {
				isRight(t, what, m)
			} else {
				isWrong(t, what, m)
			}
		}
	}
}

// A wrong number in the last place of a list that is as long as may be.
func TestTheLastOfALongList(t *testing.T) {
	for _, n := range []int{-1, api.Most + 1} {
		m := greatest()
		m.Path[4] = n
		isWrong(t, "the last of Path", m)
		for _, f := range []func(x *api.Entry) *int{func(x *api.Entry) *int { return &x.Inc }, func(x *api.Entry) *int { return &x.Status }, func(x *api.Entry) *int { return &x.Stamp }, func(x *api.Entry) *int { return &x.Load }} {
			m = greatest()
			*f(&m.Table[4]) = n
			isWrong(t, "the last of Table", m)
		}
	}
}

func wrongReqs() []api.Req {
	return []api.Req{
		{Client: 1}, {Seq: 1}, {Op: api.Op{Kind: api.Get}}, {Op: api.Op{Key: "a"}}, {Op: api.Op{Value: "a"}}, {Op: api.Op{Old: "a"}},
		put(-1, 1, "a", ""), put(api.MaxClients, 1, "a", ""), put(0, 0, "a", ""), put(0, -1, "a", ""), put(0, api.Most+1, "a", ""),
		put(0, 1, "", ""), put(0, 1, "9 bytes..", ""), put(0, 1, "a", value17),
		{Seq: 1, Op: api.Op{Key: "a"}}, {Seq: 1, Op: api.Op{Kind: 5, Key: "a"}}, {Seq: 1, Op: api.Op{Kind: -1, Key: "a"}},
		{Seq: 1, Op: api.Op{Kind: api.Get, Key: "a", Value: "1"}}, {Seq: 1, Op: api.Op{Kind: api.Put, Key: "a", Old: "1"}}, {Seq: 1, Op: api.Op{Kind: api.Cas, Key: "a", Old: value17}},
	}
}

func wrongAnswers() []api.Answer {
	return []api.Answer{{Why: -1}, {Why: math.MinInt}, {Why: api.ErrState + 1}, {Why: 256}, {Why: api.Most}, {Why: math.MaxInt}, {Value: value17}, {Why: api.ErrState, Value: strings.Repeat("v", 256)}, {Why: 12, Value: value17}}
}

func wrongImages() []api.Image {
	return []api.Image{
		{Shard: 1}, {Pairs: []api.Pair{{Key: "a"}}}, {Sess: []api.Sess{sess(0, 1, 0, "")}},
		{Shard: -1, Epoch: 1}, {Shard: api.MaxShards, Epoch: 1}, {Shard: api.Most, Epoch: 1}, {Epoch: -1}, {Epoch: api.Far + 1}, {Epoch: api.Most + 1},
		{Epoch: 1, Pairs: []api.Pair{{Key: "b"}, {Key: "a"}}}, {Epoch: 1, Pairs: []api.Pair{{Key: "a"}, {Key: "a"}}}, {Epoch: 1, Pairs: []api.Pair{{}}}, {Epoch: 1, Pairs: []api.Pair{{Key: "a", Value: value17}}}, {Epoch: 1, Pairs: make([]api.Pair, 9)},
		{Epoch: 1, Sess: []api.Sess{sess(1, 1, 0, ""), sess(0, 1, 0, "")}}, {Epoch: 1, Sess: []api.Sess{sess(4, 1, 0, "")}}, {Epoch: 1, Sess: []api.Sess{sess(0, 0, 0, "")}}, {Epoch: 1, Sess: []api.Sess{sess(0, 1, api.ErrBusy, "")}}, {Epoch: 1, Sess: []api.Sess{sess(0, 1, 12, "")}}, {Epoch: 1, Sess: make([]api.Sess, 5)},
	}
}

func TestAReqAnAnswerAnImageThatIsNotRight(t *testing.T) {
	for _, start := range []api.Msg{{Kind: api.Ping}, full()} {
		for _, r := range wrongReqs() {
			m := start
			m.Req = r
			isWrong(t, "a Req that is not right", m)
		}
		for _, a := range wrongAnswers() {
			m := start
			m.Answer = a
			isWrong(t, "an Answer that is not right", m)
		}
		for _, x := range wrongImages() {
			m := start
			m.Image = x
			isWrong(t, "an Image that is not right", m)
		}
	}
}

func TestAZeroReqAnswerAndImageAreRight(t *testing.T) {
	m := full()
	m.Req = api.Req{}
	isRight(t, "no Req", m)
	m.Answer = api.Answer{}
	isRight(t, "no Answer", m)
	m.Image = api.Image{}
	isRight(t, "no Image", m)
	for why := range api.ErrState + 1 {
		m.Answer = api.Answer{Why: why, Value: value16}
		isRight(t, "each Why", m)
	}
}

// Where parts of full lie; those of its Table have five an Entry.
const (
	drainAt  = 8
	reqAt    = 9
	answerAt = 15
	pathAt   = 17
	tableAt  = 21
	imageAt  = 32
)

// worse are what may lie behind a fault: none of it is asked, once the fault is told.
func worse() []string {
	return []string{"", "\x00", "\x80", "\x80\x00", "\xff\xff\xff\xff\xff\xff\xff\xff\xff\xff\x01", "\x09\x0c\x06", strings.Join(fullParts(), ""), strings.Repeat("\x00", 60)}
}

// tellsOnceRead wants that full with this in the place of so many parts is told to be none
// once that is read, whatever is behind; until then it is short.
func tellsOnceRead(t *testing.T, what string, at, parts int, wrong string) {
	t.Helper()
	l := fullParts()
	ahead, behind := strings.Join(l[:at], ""), strings.Join(l[at+parts:], "")
	refuses(t, what, []byte(ahead+wrong+behind), api.ErrForm)
	for _, other := range worse() {
		refuses(t, what+", ahead of what is worse", []byte(ahead+wrong+other), api.ErrForm)
	}
	for k := range behind {
		refuses(t, what+", cut behind", []byte(ahead+wrong+behind[:k]), api.ErrForm)
	}
	for k := range wrong {
		refuses(t, what+", cut", []byte(ahead+wrong[:k]), api.ErrShort)
	}
}

func TestReadOfADrain(t *testing.T) {
	places := map[int]func(m *api.Msg) *bool{
		drainAt:      func(m *api.Msg) *bool { return &m.Drain },
		tableAt + 5:  func(m *api.Msg) *bool { return &m.Table[0].Drain },
		tableAt + 10: func(m *api.Msg) *bool { return &m.Table[1].Drain },
	}
	for at, of := range places {
		for _, on := range []bool{false, true} {
			l, want := fullParts(), full()
			l[at], *of(&want) = map[bool]string{false: "\x00", true: "\x01"}[on], on
			asks(t, "a Drain", []byte(strings.Join(l, "")), want, api.OK)
			isRight(t, "a Drain", want)
		}
		for _, n := range []int{2, 3, 127, 128, 129, 255, 256, 257, 1 << 32, 1<<32 + 1, api.Most} {
			tellsOnceRead(t, "a Drain of "+strconv.Itoa(n), at, 1, number(n))
		}
	}
}

func TestReadOfACountThatIsTooGreat(t *testing.T) {
	for what, at := range map[string]int{"Path": pathAt, "Table": tableAt} {
		for _, n := range []int{6, 7, 8, 127, 128, 255, 256, 257, 256 + 5, 1 << 31, 1 << 32, 1<<32 + 1, api.Most} {
			tellsOnceRead(t, strconv.Itoa(n)+" in "+what, at, 1, number(n))
		}
		l := fullParts()
		for n := range 6 {
			refuses(t, strconv.Itoa(n)+" in "+what+", cut behind", []byte(strings.Join(l[:at], "")+number(n)), api.ErrShort)
		}
	}
}

// An Image's counts are chapter 9's.
func TestReadOfAnImagesCount(t *testing.T) {
	for n, e := range map[int]api.Errno{8: api.ErrShort, 9: api.ErrForm, api.Most: api.ErrForm} {
		refuses(t, "Pairs", []byte(strings.Join(fullParts()[:imageAt+2], "")+number(n)), e)
	}
	for n, e := range map[int]api.Errno{4: api.ErrShort, 5: api.ErrForm, api.Most: api.ErrForm} {
		refuses(t, "Sess", []byte(strings.Join(fullParts()[:imageAt+7], "")+number(n)), e)
	}
}

func TestReadOfAReqOrAnAnswerThatIsNotRight(t *testing.T) {
	for _, r := range wrongReqs() {
		if min(r.Client, r.Seq, r.Kind) >= 0 && r.Seq <= api.Most {
			wrong := strings.Join(plainParts(api.Msg{Req: r})[9:15], "")
			tellsOnceRead(t, "a Req that is not right", reqAt, 6, wrong)
		}
	}
	for _, a := range wrongAnswers() {
		if a.Why >= 0 && a.Why <= api.Most {
			wrong := strings.Join(plainParts(api.Msg{Answer: a})[15:17], "")
			tellsOnceRead(t, "an Answer that is not right", answerAt, 2, wrong)
		}
	}
}

// What chapter 9 tells of an Image at its end is told ahead of what is behind the message.
func TestReadOfAnImageThatIsNotRight(t *testing.T) {
	ahead := strings.Join(fullParts()[:imageAt], "")
	for _, x := range wrongImages() {
		wrong := strings.Join(plainParts(api.Msg{Image: x})[19:], "")
		for _, other := range worse() {
			refuses(t, "an Image that is not right", []byte(ahead+wrong+other), api.ErrForm)
		}
		for k := range wrong {
			_, _, e := codec.ReadImage([]byte(wrong[:k]))
			refuses(t, "an Image that is not right, cut", []byte(ahead+wrong[:k]), e)
		}
	}
}

// Only the whole tells of a Kind and of a Status: what is cut behind them is short.
func TestReadOfAKindOrAStatusIsToldAtTheEnd(t *testing.T) {
	for what, at := range map[string]int{"Kind": 0, "Status 0": tableAt + 2, "Status 1": tableAt + 7} {
		for _, n := range []string{"\x0b", "\x7f", "\x80\x02", most} {
			l := fullParts()
			l[at] = n
			b := []byte(strings.Join(l, ""))
			for k := range b {
				refuses(t, "a wrong "+what+", cut", b[:k], api.ErrShort)
			}
			refuses(t, "a wrong "+what, b, api.ErrForm)
			refuses(t, "a wrong "+what+", and something behind", append(b, 0), api.ErrForm)
		}
	}
	for what, b := range map[string]string{"23": strings.Repeat("\x00", 23), "24": strings.Repeat("\x00", 24)} {
		refuses(t, "Kind 0, zeros: "+what, []byte(b), api.ErrForm)
		refuses(t, "Kind 0, zeros, cut", []byte(b[:22]), api.ErrShort)
	}
}

// wrongNumbers begin with no number; those that are not cut are told whatever comes behind.
var wrongNumbers = map[string]string{
	"0 in two bytes":     "\x80\x00",
	"1 in two bytes":     "\x81\x00",
	"1 in three bytes":   "\x81\x80\x00",
	"Most and one":       "\x80\x80\x80\x80\x80\x80\x80\x80\x40",
	"2^63 and one":       "\x81\x80\x80\x80\x80\x80\x80\x80\x80\x01",
	"2^64 and one":       "\x81\x80\x80\x80\x80\x80\x80\x80\x80\x02",
	"far above Most":     "\xff\xff\xff\xff\xff\xff\xff\xff\xff\xff\xff\xff\x01",
	"1 in nine bytes":    "\x81\x80\x80\x80\x80\x80\x80\x80\x00",
	"127 in two bytes":   "\xff\x00",
	"128 in three bytes": "\x80\x81\x00",
}

func TestReadTellsNumsErrors(t *testing.T) {
	for _, one := range messages() {
		for k := range one.parts {
			ahead, behind := strings.Join(one.parts[:k], ""), strings.Join(one.parts[k+1:], "")
			where := one.name + ", part " + strconv.Itoa(k) + ": "
			for what, wrong := range wrongNumbers {
				refuses(t, where+what, []byte(ahead+wrong+behind), api.ErrForm)
				refuses(t, where+what+", and nothing behind", []byte(ahead+wrong), api.ErrForm)
				refuses(t, where+what+", ahead of a number that is cut", []byte(ahead+wrong+"\x80"), api.ErrForm)
				refuses(t, where+what+", cut", []byte(ahead+wrong[:len(wrong)-1]), api.ErrShort)
			}
			refuses(t, where+"bytes without an end", []byte(ahead+strings.Repeat("\x80", 30)), api.ErrShort)
		}
	}
}

// Where there are two faults, the left one is told: a wrong part, and bytes that end too early.
func TestReadTellsTheFirstErrorFromTheLeft(t *testing.T) {
	for _, one := range []struct {
		what string
		l    map[int]string
		cut  int
		e    api.Errno
	}{
		{"a wrong Drain, a wrong Kind, cut", map[int]string{0: "\x0b", drainAt: "\x02"}, drainAt + 1, api.ErrForm},
		{"a wrong Kind, cut ahead of a wrong Drain", map[int]string{0: "\x0b", drainAt: "\x02"}, drainAt, api.ErrShort},
		{"a wrong Drain ahead of a wrong Req", map[int]string{drainAt: "\x02", reqAt: "\x04"}, reqAt, api.ErrForm},
		{"a wrong Req, cut", map[int]string{reqAt: "\x04"}, answerAt, api.ErrForm},
		{"a wrong Req, cut within", map[int]string{reqAt: "\x04"}, answerAt - 1, api.ErrShort},
		{"a wrong Answer, cut", map[int]string{answerAt: "\x0c"}, pathAt, api.ErrForm},
		{"a wrong Answer, cut within", map[int]string{answerAt: "\x0c"}, pathAt - 1, api.ErrShort},
		{"a Path too long, cut", map[int]string{pathAt: "\x06"}, pathAt + 1, api.ErrForm},
		{"a Path too long, behind a Path cut", map[int]string{pathAt: "\x05"}, pathAt + 1, api.ErrShort},
		{"a Table too long, cut", map[int]string{0: "\x00", tableAt: "\x06"}, tableAt + 1, api.ErrForm},
		{"a wrong Status, cut", map[int]string{tableAt + 2: "\x03"}, tableAt + 5, api.ErrShort},
		{"a wrong Status ahead of a wrong Drain", map[int]string{tableAt + 2: "\x03", tableAt + 5: "\x02"}, tableAt + 6, api.ErrForm},
		{"a wrong Drain of the first Entry, the second cut", map[int]string{tableAt + 5: "\x02"}, tableAt + 7, api.ErrForm},
		{"a wrong Image, cut", map[int]string{imageAt: "\x06"}, imageAt + 15, api.ErrShort},
		{"a wrong Image", map[int]string{imageAt: "\x06"}, imageAt + 16, api.ErrForm},
	} {
		l := fullParts()
		for at, part := range one.l {
			l[at] = part
		}
		refuses(t, one.what, []byte(strings.Join(l[:one.cut], "")), one.e)
	}
}

// leaves are all numbers, texts and bools that v has in it, by their names.
func leaves(v reflect.Value, name string, each func(name string, leaf reflect.Value)) {
	switch v.Kind() {
	case reflect.Struct:
		for k := range v.NumField() {
			leaves(v.Field(k), name+"."+v.Type().Field(k).Name, each)
		}
	case reflect.Slice:
		for k := range v.Len() {
			leaves(v.Index(k), name+"."+strconv.Itoa(k), each)
		}
	default:
		each(name, v)
	}
}

// bent makes another of a leaf, in several ways.
func bent(leaf reflect.Value) []reflect.Value {
	var l []reflect.Value
	add := func(x any) { l = append(l, reflect.ValueOf(x).Convert(leaf.Type())) }
	switch leaf.Kind() {
	case reflect.Int:
		for _, n := range []int{1, -1, 128, 256, 1 << 32, math.MinInt} {
			add(int(leaf.Int()) + n)
		}
	case reflect.Bool:
		add(!leaf.Bool())
	case reflect.String:
		add(leaf.String() + "!")
		add("!" + leaf.String())
		if leaf.Len() > 0 {
			add(leaf.String()[1:])
			add("!" + leaf.String()[1:])
		}
	}
	return l
}

// differ wants that two are not the same, whichever comes first.
func differ(t *testing.T, what string, a, b api.Msg) {
	t.Helper()
	if Same(a, b) || Same(b, a) || plainSame(a, b) {
		t.Errorf("10.1: Same, other in %s: %+v, %+v", what, a, b)
	}
}

func agree(t *testing.T, what string, a, b api.Msg) {
	t.Helper()
	if !Same(a, b) || !Same(b, a) || !Same(a, a) {
		t.Errorf("10.1: not Same, %s: %+v, %+v", what, a, b)
	}
}

func TestSameOfOnesThatAreOtherInOneField(t *testing.T) {
	for what, make := range map[string]func() api.Msg{
		"zero": func() api.Msg { return api.Msg{} }, "full": full, "greatest": greatest,
		"wrong": func() api.Msg {
			return api.Msg{Kind: -1, Path: []int{-5, 0, 0, 0, 0, 0, 0}, Table: []api.Entry{{Status: 9}, {}, {}, {}, {}, {}}, Image: api.Image{Pairs: []api.Pair{{}, {}}, Sess: []api.Sess{{}}}}
		},
	} {
		agree(t, what, make(), make())
		m, seen := make(), 0
		leaves(reflect.ValueOf(&m).Elem(), what, func(name string, leaf reflect.Value) {
			was := reflect.ValueOf(leaf.Interface())
			for _, other := range bent(leaf) {
				leaf.Set(other)
				differ(t, name, m, make())
				agree(t, name+" of both", m, m)
				seen++
			}
			leaf.Set(was)
		})
		if agree(t, what, m, make()); seen < 17 {
			t.Errorf("%s: %d fields", what, seen)
		}
	}
}

func TestSameOfTwoValuesAndTwoKinds(t *testing.T) {
	ask, told := api.Msg{Kind: 2}, api.Msg{Kind: 2}
	ask.Op.Value, told.Value = "v", "v"
	differ(t, "whose Value it is", ask, told)
	if ask.Req.Value != "v" || told.Answer.Value != "v" || ask.Value != "" {
		t.Error("a Value lies where it is not looked for")
	}
	both := ask
	both.Answer.Value = "v"
	differ(t, "the Answer's Value", both, ask)
	differ(t, "the Req's Value", both, told)
	swapped := full()
	swapped.Req.Value, swapped.Answer.Value = swapped.Answer.Value, swapped.Req.Value
	differ(t, "which Value is which", swapped, full())
	isRight(t, "swapped Values", swapped)
	swapped = full()
	swapped.Kind, swapped.Req.Kind = swapped.Req.Kind, swapped.Kind
	differ(t, "which Kind is which", swapped, full())
	swapped = full()
	swapped.Shard, swapped.Epoch, swapped.Image.Shard, swapped.Image.Epoch = swapped.Image.Shard, swapped.Image.Epoch, swapped.Shard, swapped.Epoch
	differ(t, "which Shard and Epoch are which", swapped, full())
}

func TestSameOfLists(t *testing.T) {
	bends := map[string]func(m *api.Msg){
		"no Path":         func(m *api.Msg) { m.Path = nil },
		"a shorter Path":  func(m *api.Msg) { m.Path = m.Path[:2] },
		"a later Path":    func(m *api.Msg) { m.Path = m.Path[1:] },
		"a longer Path":   func(m *api.Msg) { m.Path = append(m.Path, 0) },
		"a turned Path":   func(m *api.Msg) { slices.Reverse(m.Path) },
		"no Table":        func(m *api.Msg) { m.Table = nil },
		"a shorter Table": func(m *api.Msg) { m.Table = m.Table[:1] },
		"a longer Table":  func(m *api.Msg) { m.Table = append(m.Table, api.Entry{}) },
		"a turned Table":  func(m *api.Msg) { slices.Reverse(m.Table) },
		"no Image":        func(m *api.Msg) { m.Image = api.Image{} },
		"no Pairs":        func(m *api.Msg) { m.Image.Pairs = nil },
		"fewer Pairs":     func(m *api.Msg) { m.Image.Pairs = m.Image.Pairs[:1] },
		"more Pairs":      func(m *api.Msg) { m.Image.Pairs = append(m.Image.Pairs, api.Pair{}) },
		"turned Pairs":    func(m *api.Msg) { slices.Reverse(m.Image.Pairs) },
		"no Sess":         func(m *api.Msg) { m.Image.Sess = nil },
		"fewer Sess":      func(m *api.Msg) { m.Image.Sess = m.Image.Sess[:1] },
		"more Sess":       func(m *api.Msg) { m.Image.Sess = append(m.Image.Sess, api.Sess{}) },
		"turned Sess":     func(m *api.Msg) { slices.Reverse(m.Image.Sess) },
		"no Req":          func(m *api.Msg) { m.Req = api.Req{} },
		"no Answer":       func(m *api.Msg) { m.Answer = api.Answer{} },
		"nothing":         func(m *api.Msg) { *m = api.Msg{} },
	}
	for what, bend := range bends {
		m, again := full(), full()
		bend(&m)
		bend(&again)
		differ(t, what, m, full())
		agree(t, what, m, again)
	}
}

func TestNilAndAnEmptyListAreTheSame(t *testing.T) {
	some := full()
	for paths := range 3 {
		for tables := range 3 {
			for pairs := range 3 {
				for sesss := range 3 {
					m := full()
					m.Path = [][]int{nil, {}, some.Path[:0]}[paths]
					m.Table = [][]api.Entry{nil, {}, some.Table[:0]}[tables]
					m.Image.Pairs = [][]api.Pair{nil, {}, some.Image.Pairs[:0]}[pairs]
					m.Image.Sess = [][]api.Sess{nil, {}, some.Image.Sess[:0]}[sesss]
					bare := full()
					bare.Path, bare.Table, bare.Image.Pairs, bare.Image.Sess = nil, nil, nil, nil
					agree(t, "empty lists", m, bare)
					isRight(t, "empty lists", m)
					if !bytes.Equal(Lay(m), Lay(bare)) {
						t.Errorf("R2: empty lists are laid as % x", Lay(m))
					}
					m.Image.Shard, m.Image.Epoch = 0, 0
					isRight(t, "a zero Image with empty lists", m)
				}
			}
		}
	}
}

func TestRightIsToldOfBentMessages(t *testing.T) {
	told := map[bool]int{}
	for _, make := range []func() api.Msg{full, greatest} {
		m := make()
		leaves(reflect.ValueOf(&m).Elem(), "m", func(name string, leaf reflect.Value) {
			was := reflect.ValueOf(leaf.Interface())
			for _, other := range bent(leaf) {
				leaf.Set(other)
				if told[Right(m)]++; plainRight(m) {
					isRight(t, name, m)
				} else {
					isWrong(t, name, m)
				}
			}
			leaf.Set(was)
		})
	}
	if told[true] < 50 || told[false] < 50 {
		t.Errorf("right and wrong ones: %v", told)
	}
}

// walk holds all texts of so many bytes, of these, against plain, alone and ahead of behind.
func walk(t *testing.T, told map[api.Errno]int, b []byte, behind, letters string, depth int) {
	told[holdAgainstPlain(t, b)]++
	told[holdAgainstPlain(t, append(slices.Clone(b), behind...))]++
	if depth == 0 {
		return
	}
	for k := range len(letters) {
		walk(t, told, append(b, letters[k]), behind, letters, depth-1)
	}
}

func TestReadOfAllShortBytesAtEachPlace(t *testing.T) {
	told := map[api.Errno]int{}
	for _, one := range messages()[:7] {
		for at := range one.parts {
			for _, after := range []int{at, at + 1, len(one.parts)} {
				ahead, behind := strings.Join(one.parts[:at], ""), strings.Join(one.parts[after:], "")
				walk(t, told, []byte(ahead), behind, "\x00\x01\x02\x03\x05\x06\x0b\x0c\x80", 2)
			}
		}
	}
	walk(t, told, nil, "", "\x00\x01\x02\x80", 7)
	walk(t, told, []byte("\x01"+strings.Repeat("\x00", 16)), "\x00\x00\x00\x00", "\x00\x01\x05\x06\x80", 6)
	for _, e := range []api.Errno{api.OK, api.ErrForm, api.ErrShort} {
		if told[e] < 100 {
			t.Errorf("%d of %d", told[e], e)
		}
	}
}

// worn is b with some bytes turned, left out, put in, or behind.
func worn(r *rand.Rand, b []byte) []byte {
	b = slices.Clone(b)
	for range 1 + r.Intn(3) {
		at := r.Intn(len(b) + 1)
		some := []byte{byte(r.Intn(256)), byte(r.Intn(20)), 0, 0x80}[r.Intn(4)]
		switch {
		case r.Intn(3) == 0:
			b = slices.Insert(b, at, some)
		case at == len(b):
			b = b[:r.Intn(len(b)+1)]
		case r.Intn(2) == 0:
			b[at] = some
		default:
			b = slices.Delete(b, at, at+1)
		}
	}
	return b
}

func TestReadOfWornBytes(t *testing.T) {
	r := rand.New(rand.NewSource(1))
	told := map[api.Errno]int{}
	for range 3000 {
		for _, one := range messages() {
			told[holdAgainstPlain(t, worn(r, one.bytes()))]++
		}
	}
	for _, e := range []api.Errno{api.OK, api.ErrForm, api.ErrShort} {
		if told[e] < 500 {
			t.Errorf("%d of %d", told[e], e)
		}
	}
}

func anyNumber(r *rand.Rand) int { return r.Intn(api.Most) >> r.Intn(62) }

func anyMessage(r *rand.Rand) api.Msg {
	m := api.Msg{Kind: 1 + r.Intn(10), From: anyNumber(r), To: anyNumber(r), Shard: anyNumber(r), Epoch: anyNumber(r), Weight: anyNumber(r), Load: anyNumber(r), Nonce: anyNumber(r), Drain: r.Intn(2) == 0}
	if r.Intn(2) == 0 {
		m.Req = put(r.Intn(4), 1+anyNumber(r), strings.Repeat("k", 1+r.Intn(8)), strings.Repeat("v", r.Intn(17)))
	}
	m.Answer = api.Answer{Why: api.Errno(r.Intn(12)), Value: strings.Repeat("w", r.Intn(17))}
	for range r.Intn(6) {
		m.Path = append(m.Path, anyNumber(r))
	}
	for range r.Intn(6) {
		m.Table = append(m.Table, api.Entry{Inc: anyNumber(r), Status: r.Intn(3), Stamp: anyNumber(r), Load: anyNumber(r), Drain: r.Intn(2) == 0})
	}
	if r.Intn(2) == 0 {
		m.Image = greatest().Image
		m.Image.Pairs, m.Image.Sess = m.Image.Pairs[r.Intn(9):], m.Image.Sess[r.Intn(5):]
	}
	return m
}

func TestAnyMessageIsReadAgain(t *testing.T) {
	r := rand.New(rand.NewSource(2))
	for range 3000 {
		m := anyMessage(r)
		isRight(t, "any message", m)
		b := Lay(m)
		refuses(t, "any message, cut", b[:r.Intn(len(b))], api.ErrShort)
		refuses(t, "any message, and a byte behind", append(b, byte(r.Intn(256))), api.ErrForm)
		if other := anyMessage(r); Same(m, other) != plainSame(m, other) || bytes.Equal(Lay(other), Lay(m)) != plainSame(m, other) {
			t.Fatalf("10.2: Same of %+v, %+v: %t", m, other, Same(m, other))
		}
	}
}

// A long text is told by chapter 9, not by the room that it would take.
func TestReadOfATextThatIsLongerThanWhatIsThere(t *testing.T) {
	for _, at := range []int{12, 13, 14, 16, 35, 36, 37, 38, 43, 47} {
		l := fullParts()
		behind := l[at][1:] + strings.Join(l[at+1:], "")
		for _, length := range []int{len(behind) + 1, len(behind) + 128, 1 << 31, 1 << 32, 1 << 56, api.Most} {
			refuses(t, "a text of "+strconv.Itoa(length), []byte(strings.Join(l[:at], "")+number(length)+behind), api.ErrShort)
		}
	}
}

// roomy answers m with spare room behind its lists, and something in it.
func roomy(m api.Msg) api.Msg {
	m.Path = append(slices.Clone(m.Path), 77, 78)[:len(m.Path)]
	m.Table = append(slices.Clone(m.Table), api.Entry{Inc: 77}, api.Entry{Inc: 78})[:len(m.Table)]
	m.Image.Pairs = append(slices.Clone(m.Image.Pairs), api.Pair{Key: "spare"}, api.Pair{Key: "room"})[:len(m.Image.Pairs)]
	m.Image.Sess = append(slices.Clone(m.Image.Sess), sess(0, 77, 0, ""), sess(0, 78, 0, ""))[:len(m.Image.Sess)]
	return m
}

// whole answers m with its spare room.
func whole(m api.Msg) api.Msg {
	m.Path, m.Table = m.Path[:cap(m.Path)], m.Table[:cap(m.Table)]
	m.Image.Pairs, m.Image.Sess = m.Image.Pairs[:cap(m.Image.Pairs)], m.Image.Sess[:cap(m.Image.Sess)]
	return m
}

// overwrite writes over the lists of m, their spare room too.
func overwrite(m api.Msg) {
	m = whole(m)
	for k := range m.Path {
		m.Path[k] = 33
	}
	for k := range m.Table {
		m.Table[k] = api.Entry{Inc: 33, Drain: true}
	}
	for k := range m.Image.Pairs {
		m.Image.Pairs[k] = api.Pair{Key: "!", Value: "!"}
	}
	for k := range m.Image.Sess {
		m.Image.Sess[k] = sess(3, 33, api.ErrState, "!")
	}
}

func someOfEach() map[string]api.Msg {
	l := map[string]api.Msg{"zero": {}, "a Path too long": {Kind: 1, Path: make([]int, 9)}, "a Table too long": {Kind: 1, Table: make([]api.Entry, 9)}}
	for _, one := range messages() {
		l[one.name] = one.m
	}
	wrong := full()
	wrong.Image.Pairs[1].Key = "a"
	l["a wrong Image"] = wrong
	wrong = full()
	wrong.Table[1].Status = 3
	l["a wrong Status"] = wrong
	return l
}

func TestAMessageThatIsHandedInStays(t *testing.T) {
	for what, start := range someOfEach() {
		m, other := roomy(start), roomy(start)
		old := noNil(whole(m))
		Right(m)
		b := Lay(m)
		Same(m, other)
		Same(other, m)
		if !plainSame(whole(m), old) || !plainSame(whole(other), old) {
			t.Errorf("R2: %s was changed: %+v", what, whole(m))
		}
		want := bytes.Clone(b)
		overwrite(m)
		if !bytes.Equal(b, want) {
			t.Errorf("R2: Lay of %s shares what was handed in: % x", what, b)
		}
	}
}

func fill(b []byte, c byte) {
	for k := range b {
		b[k] = c
	}
}

func TestBytesThatAreHandedInStay(t *testing.T) {
	for what, m := range someOfEach() {
		laid := plainLay(m)
		for cut := range len(laid) + 1 {
			const room = 100
			buffer := slices.Concat(bytes.Repeat([]byte{0xa5}, room), laid[:cut], bytes.Repeat([]byte{0x5a}, room))
			old := bytes.Clone(buffer)
			got, e := Read(buffer[room : room+cut])
			if !bytes.Equal(buffer, old) {
				t.Errorf("R2: Read of %s, cut at %d, changed what it was handed", what, cut)
			}
			want, wantE := plainRead(bytes.Clone(laid[:cut]))
			if fill(buffer, 0x11); !plainSame(got, want) || e != wantE {
				t.Errorf("R2: Read of %s, cut at %d: %+v, once its bytes are others", what, cut, got)
			}
			overwrite(got)
			if slices.ContainsFunc(buffer, func(c byte) bool { return c != 0x11 }) {
				t.Errorf("R2: Read of %s, cut at %d: the answer lies in what was handed in", what, cut)
			}
		}
	}
}

func TestTwoAnswersShareNothing(t *testing.T) {
	for _, one := range messages() {
		b := one.bytes()
		x, _ := Read(b)
		y, _ := Read(b)
		if overwrite(x); !plainSame(y, one.m) {
			t.Errorf("R2: %s: two answers of Read are one: %+v", one.name, y)
		}
		asks(t, one.name+", once an answer was overwritten", b, one.m, api.OK)
		first, second := Lay(one.m), Lay(one.m)
		if fill(first[:cap(first)], 0x33); !bytes.Equal(second, b) || !bytes.Equal(Lay(one.m), b) {
			t.Errorf("R2: %s: two answers of Lay are one: % x", one.name, second)
		}
	}
}

func FuzzRead(f *testing.F) {
	for _, one := range messages() {
		f.Add(one.bytes())
	}
	f.Fuzz(func(t *testing.T, b []byte) {
		if holdAgainstPlain(t, b) != api.OK {
			return
		}
		m, _ := Read(b)
		if again := Lay(m); !Right(m) || !bytes.Equal(again, b) {
			t.Fatalf("10.2: % x is laid again as % x", b, again)
		}
	})
}
