package session

import (
	"maps"
	"math"
	"math/rand"
	"slices"
	"strings"
	"testing"

	"osmosis/api"
)

func sess(client, seq int, value string) api.Sess {
	return api.Sess{Client: client, Seq: seq, Answer: api.Answer{Value: value}}
}

func failed(client, seq int, why api.Errno, value string) api.Sess {
	return api.Sess{Client: client, Seq: seq, Answer: api.Answer{Why: why, Value: value}}
}

// strangers are clients that may not be.
var strangers = []int{math.MinInt, -1 << 32, -api.MaxClients, -2, -1, api.MaxClients, api.MaxClients + 1, 2 * api.MaxClients, 99, 256, 1 << 32, 1<<32 + 1, math.MaxInt}

// holds asks for these, which rise by Client, and for the last one of each client there may be, or not.
func holds(t *testing.T, what string, s *Sessions, want []api.Sess) {
	t.Helper()
	if got := s.All(); !slices.Equal(got, want) {
		t.Fatalf("%s: All: %v, not %v", what, got, want)
	}
	of := map[int]api.Sess{}
	for _, x := range want {
		of[x.Client] = x
	}
	for client := range api.MaxClients {
		last, there := of[client]
		lastIs(t, what, s, client, last, there)
	}
	for _, client := range strangers {
		lastIs(t, what, s, client, api.Sess{}, false)
	}
}

func lastIs(t *testing.T, what string, s *Sessions, client int, want api.Sess, there bool) {
	t.Helper()
	if got, ok := s.Last(client); got != want || ok != there {
		t.Fatalf("%s: Last(%d): %v, %t, not %v, %t", what, client, got, ok, want, there)
	}
}

func notes(t *testing.T, what string, s *Sessions, x api.Sess, want bool) {
	t.Helper()
	if got := s.Note(x); got != want {
		t.Fatalf("%s: Note(%v): %t", what, x, got)
	}
}

// made answers sessions that have these.
func made(t *testing.T, want []api.Sess) *Sessions {
	t.Helper()
	var s Sessions
	for _, x := range want {
		notes(t, "7.1: sessions that are made", &s, x, true)
	}
	holds(t, "7.1: sessions that were made", &s, want)
	return &s
}

// starts are sessions of no client, of one, of some, of all, at low numbers and at the highest ones.
func starts() map[string][]api.Sess {
	all := []api.Sess{sess(0, 1, "zero"), failed(1, 7, api.ErrNone, ""), failed(2, 1<<40, api.ErrOther, "two"), sess(3, 2, "")}
	return map[string][]api.Sess{
		"none": nil, "the first client": all[:1], "a client between": all[1:2], "the last client": all[3:],
		"some": {all[0], all[2]}, "all": all,
		"the highest numbers": {sess(0, math.MaxInt, "far"), sess(1, api.Most, "most"), sess(2, math.MaxInt-1, "near"), sess(3, api.Most+1, "above")},
	}
}

func TestTheLimits(t *testing.T) {
	if api.MaxClients != 4 {
		t.Error("package api was turned: plain and starts reckon with its numbers")
	}
}

func TestTheExample(t *testing.T) {
	var s Sessions
	notes(t, "7.1: the example", &s, sess(1, 3, ""), true)
	notes(t, "7.1: the example", &s, sess(1, 3, ""), false)
	holds(t, "7.1: the example", &s, []api.Sess{sess(1, 3, "")})
}

func TestNoteOfAClient(t *testing.T) {
	for _, c := range []struct {
		client int
		want   bool
	}{{-1, false}, {0, true}, {1, true}, {api.MaxClients - 1, true}, {api.MaxClients, false}} {
		for _, seq := range []int{1, 2, api.Most, math.MaxInt} {
			var s Sessions
			x := sess(c.client, seq, "v")
			notes(t, "7.1: a client", &s, x, c.want)
			if c.want {
				holds(t, "7.1: a client", &s, []api.Sess{x})
			} else {
				holds(t, "7.1: a client that may not be", &s, nil)
			}
		}
	}
}

func TestNoteOfAStranger(t *testing.T) {
	for name, start := range starts() {
		s := made(t, start)
		old := *s
		for _, client := range strangers {
			for _, seq := range []int{math.MinInt, -1, 0, 1, 8, math.MaxInt} {
				notes(t, "7.1: a client that may not be, "+name, s, sess(client, seq, "v"), false)
				holds(t, "7.1: a client that may not be, "+name, s, start)
			}
		}
		if *s != old {
			t.Errorf("7.1: %s: what was refused left something", name)
		}
	}
}

func TestNoteOfANumberBelowOne(t *testing.T) {
	for name, start := range starts() {
		s := made(t, start)
		old := *s
		for client := range api.MaxClients {
			for _, seq := range []int{0, -1, -7, -1 << 32, -math.MaxInt, math.MinInt} {
				notes(t, "7.1: a number below 1, "+name, s, sess(client, seq, "v"), false)
				holds(t, "7.1: a number below 1, "+name, s, start)
			}
		}
		if *s != old {
			t.Errorf("7.1: %s: what was refused left something", name)
		}
	}
}

// told answers l, rising by Client, with x in the place of its client's.
func told(l []api.Sess, x api.Sess) []api.Sess {
	l = slices.DeleteFunc(slices.Clone(l), func(y api.Sess) bool { return y.Client == x.Client })
	l = append(l, x)
	slices.SortFunc(l, func(a, b api.Sess) int { return a.Client - b.Client })
	return l
}

func TestNoteOfAFirstNumber(t *testing.T) {
	for name, start := range starts() {
		for client := range api.MaxClients {
			if slices.ContainsFunc(start, func(x api.Sess) bool { return x.Client == client }) {
				continue
			}
			for _, seq := range []int{1, 2, 3, 1 << 32, api.Far, api.Most, math.MaxInt} {
				s := made(t, start)
				x := sess(client, seq, "first")
				notes(t, "7.1: a first number, "+name, s, x, true)
				holds(t, "7.1: a first number, "+name, s, told(start, x))
			}
		}
	}
}

func TestNoteOfANumberThatIsNotAbove(t *testing.T) {
	for name, start := range starts() {
		for _, last := range start {
			s := made(t, start)
			for _, seq := range []int{last.Seq, last.Seq - 1, last.Seq / 2, 1, 0, -last.Seq, math.MinInt} {
				for _, x := range []api.Sess{sess(last.Client, seq, "again"), sess(last.Client, seq, ""), failed(last.Client, seq, api.ErrFull, ""), {Client: last.Client, Seq: seq, Answer: last.Answer}} {
					notes(t, "7.1: a number that is not above, "+name, s, x, false)
					holds(t, "7.1: a number that is not above, "+name, s, start)
				}
			}
		}
	}
}

func TestNoteOfANumberAbove(t *testing.T) {
	for name, start := range starts() {
		for _, last := range start {
			for _, seq := range []int{last.Seq + 1, last.Seq + 2, 2*last.Seq + 1, math.MaxInt} {
				if seq <= last.Seq {
					continue
				}
				for _, x := range []api.Sess{sess(last.Client, seq, "above"), sess(last.Client, seq, ""), failed(last.Client, seq, api.ErrFull, ""), {Client: last.Client, Seq: seq, Answer: last.Answer}} {
					s := made(t, start)
					want := told(start, x)
					notes(t, "7.1: a number above, "+name, s, x, true)
					holds(t, "7.1: a number above, "+name, s, want)
					for _, old := range []api.Sess{x, last, sess(last.Client, seq-1, "old")} {
						notes(t, "7.1: a number behind one above, "+name, s, old, false)
					}
					holds(t, "7.1: a number behind one above, "+name, s, want)
				}
			}
		}
	}
}

// Each client's numbers are its own: another one's neither bar them nor let them in.
func TestNumbersOfTwoClients(t *testing.T) {
	var s Sessions
	for k, c := range []struct {
		x    api.Sess
		want bool
	}{
		{sess(2, 9, "a"), true}, {sess(1, 1, "b"), true}, {sess(3, 1, "c"), true}, {sess(2, 8, "d"), false},
		{sess(1, 9, "e"), true}, {sess(3, 2, "f"), true}, {sess(3, 1, "g"), false}, {sess(1, 8, "h"), false},
		{sess(2, 10, "i"), true}, {sess(0, 1, "j"), true}, {sess(0, 1, "k"), false}, {sess(1, 10, "l"), true},
	} {
		if got := s.Note(c.x); got != c.want {
			t.Errorf("7.1: Note %d of two clients: %t", k, got)
		}
	}
	holds(t, "7.1: numbers of several clients", &s, []api.Sess{sess(0, 1, "j"), sess(1, 10, "l"), sess(2, 10, "i"), sess(3, 2, "f")})
}

// No promise asks what an answer is: it is kept as it came.
func TestAnyAnswerIsKept(t *testing.T) {
	for _, answer := range []api.Answer{
		{}, {Value: "v"}, {Why: api.ErrArg}, {Why: api.ErrState, Value: "x"}, {Why: -1}, {Why: 99, Value: "\x00\xff"},
		{Value: strings.Repeat("v", api.MaxValue+1)}, {Why: math.MaxInt, Value: strings.Repeat("long", 1000)},
	} {
		for client := range api.MaxClients {
			var s Sessions
			x := api.Sess{Client: client, Seq: 5, Answer: answer}
			notes(t, "7.1: any answer", &s, x, true)
			holds(t, "7.1: any answer", &s, []api.Sess{x})
			again := OfAll(x)
			holds(t, "7.1: any answer, OfAll", &again, []api.Sess{x})
		}
	}
}

func TestLast(t *testing.T) {
	s := OfAll(sess(0, 1, "zero"), failed(3, 4, api.ErrOther, "three"))
	for range 2 {
		lastIs(t, "7.1: the first client", &s, 0, sess(0, 1, "zero"), true)
		lastIs(t, "7.1: a client that has none", &s, 1, api.Sess{}, false)
		lastIs(t, "7.1: a client that has none", &s, 2, api.Sess{}, false)
		lastIs(t, "7.1: the last client", &s, api.MaxClients-1, failed(3, 4, api.ErrOther, "three"), true)
		lastIs(t, "7.1: below the first client", &s, -1, api.Sess{}, false)
		lastIs(t, "7.1: above the last client", &s, api.MaxClients, api.Sess{}, false)
	}
	notes(t, "7.1: a number that is refused", &s, sess(1, 0, "one"), false)
	lastIs(t, "7.1: a client whose number was refused", &s, 1, api.Sess{}, false)
}

// orders answers every order of every choice of l.
func orders(l []api.Sess) [][]api.Sess {
	all := [][]api.Sess{nil}
	for k, x := range l {
		for _, rest := range orders(slices.Delete(slices.Clone(l), k, k+1)) {
			all = append(all, append([]api.Sess{x}, rest...))
		}
	}
	return all
}

func TestAllRisesByClient(t *testing.T) {
	all := []api.Sess{sess(0, 4, "d"), sess(1, 3, "c"), sess(2, 2, "b"), sess(3, 1, "a")}
	list := orders(all)
	if len(list) != 65 {
		t.Fatalf("%d orders", len(list))
	}
	for _, order := range list {
		var want []api.Sess
		for _, x := range all {
			if slices.Contains(order, x) {
				want = append(want, x)
			}
		}
		var s Sessions
		for _, x := range order {
			notes(t, "7.1: any order", &s, x, true)
		}
		holds(t, "7.1: any order", &s, want)
		if same := OfAll(order...); same != s {
			t.Fatalf("7.1: OfAll(%v): %v", order, same.All())
		}
		if same := OfAll(s.All()...); same != s {
			t.Fatalf("7.1: OfAll of All: %v, not %v", same.All(), s.All())
		}
	}
}

func TestOfAllOfNothing(t *testing.T) {
	for name, s := range map[string]Sessions{
		"nothing":       OfAll(),
		"a nil list":    OfAll([]api.Sess(nil)...),
		"an empty list": OfAll([]api.Sess{}...),
		"spare room":    OfAll([]api.Sess{sess(1, 1, "spare")}[:0]...),
	} {
		holds(t, "7.1: OfAll of "+name, &s, nil)
		notes(t, "7.1: Note behind OfAll of "+name, &s, sess(1, 1, "a"), true)
		holds(t, "7.1: Note behind OfAll of "+name, &s, []api.Sess{sess(1, 1, "a")})
	}
}

func TestOfAll(t *testing.T) {
	for _, c := range []struct {
		what    string
		l, want []api.Sess
	}{
		{"one", []api.Sess{sess(2, 5, "a")}, []api.Sess{sess(2, 5, "a")}},
		{"several", []api.Sess{sess(2, 5, "a"), sess(0, 1, "b")}, []api.Sess{sess(0, 1, "b"), sess(2, 5, "a")}},
		{"rising numbers", []api.Sess{sess(1, 1, "a"), sess(1, 2, "b"), sess(1, 9, "c")}, []api.Sess{sess(1, 9, "c")}},
		{"falling numbers", []api.Sess{sess(1, 9, "a"), sess(1, 8, "b"), sess(1, 1, "c")}, []api.Sess{sess(1, 9, "a")}},
		{"numbers up and down", []api.Sess{sess(1, 2, "a"), sess(1, 5, "b"), sess(1, 3, "c"), sess(1, 6, "d")}, []api.Sess{sess(1, 6, "d")}},
		{"a number twice", []api.Sess{sess(3, 4, "first"), sess(3, 4, "second")}, []api.Sess{sess(3, 4, "first")}},
		{"the first and the last client", []api.Sess{sess(3, 1, "a"), sess(0, 1, "b")}, []api.Sess{sess(0, 1, "b"), sess(3, 1, "a")}},
		{"clients that may not be", []api.Sess{sess(-1, 1, "a"), sess(4, 1, "b"), sess(99, 1, "c")}, nil},
		{"numbers that may not be", []api.Sess{sess(0, 0, "a"), sess(1, -1, "b"), sess(2, math.MinInt, "c"), {}}, nil},
		{"what is refused, ahead", []api.Sess{sess(-1, 3, "x"), sess(1, 0, "y"), {}, sess(1, 1, "a")}, []api.Sess{sess(1, 1, "a")}},
		{"what is refused, between", []api.Sess{sess(2, 2, "b"), sess(4, 3, "x"), sess(2, 1, "y"), sess(1, 1, "a")}, []api.Sess{sess(1, 1, "a"), sess(2, 2, "b")}},
		{"what is refused, behind", []api.Sess{sess(1, 1, "a"), sess(1, 1, "x"), sess(4, 9, "y"), sess(0, 0, "z")}, []api.Sess{sess(1, 1, "a")}},
		{"the highest number, then more", []api.Sess{sess(1, math.MaxInt, "a"), sess(1, math.MinInt, "x"), sess(1, math.MaxInt, "y")}, []api.Sess{sess(1, math.MaxInt, "a")}},
		{"more than there are clients", []api.Sess{sess(3, 1, "a"), sess(2, 1, "b"), sess(1, 1, "c"), sess(0, 1, "d"), sess(3, 2, "e"), sess(2, 2, "f")}, []api.Sess{sess(0, 1, "d"), sess(1, 1, "c"), sess(2, 2, "f"), sess(3, 2, "e")}},
	} {
		s := OfAll(c.l...)
		holds(t, "7.1: OfAll: "+c.what, &s, c.want)
		if s != *made(t, c.want) {
			t.Errorf("7.1: OfAll: %s: other sessions than those of All", c.what)
		}
	}
}

func TestOfAllOfAListThatIsSpread(t *testing.T) {
	l := []api.Sess{sess(2, 5, "a"), sess(0, 1, "b"), sess(2, 6, "c"), sess(3, 1, "spare"), sess(1, 1, "room")}
	spread, listed := OfAll(l[:3]...), OfAll(l[0], l[1], l[2])
	for name, s := range map[string]*Sessions{"spread": &spread, "listed": &listed} {
		holds(t, "7.1: OfAll, "+name, s, []api.Sess{sess(0, 1, "b"), sess(2, 6, "c")})
	}
}

func TestTheZeroSessionsHasNone(t *testing.T) {
	for _, s := range []*Sessions{new(Sessions), {}, &make([]Sessions, 1)[0]} {
		holds(t, "7.1: the zero Sessions", s, nil)
		notes(t, "7.1: the zero Sessions", s, api.Sess{}, false)
		holds(t, "7.1: the zero Sessions, asked", s, nil)
		notes(t, "7.1: the zero Sessions", s, sess(0, 1, "a"), true)
		holds(t, "7.1: the zero Sessions, told", s, []api.Sess{sess(0, 1, "a")})
	}
	var s Sessions
	holds(t, "7.1: another zero Sessions", &s, nil)
}

// someNotes are, for each client, one far above what it has, and one that is refused.
func someNotes() []api.Sess {
	var l []api.Sess
	for client := range api.MaxClients {
		l = append(l, sess(client, math.MaxInt, "new"), sess(client, 0, "refused"))
	}
	return append(l, sess(-1, 1, "refused"), sess(api.MaxClients, 1, "refused"))
}

func TestACopyKnowsNothingOfTheOther(t *testing.T) {
	for name, start := range starts() {
		for _, x := range someNotes() {
			p := plainOf(start)
			want := p.note(x)
			old := made(t, start)
			fresh := *old
			notes(t, "7.1: a copy, "+name, &fresh, x, want)
			holds(t, "7.1: a copy was told, not the other, "+name, old, start)
			holds(t, "7.1: a copy that was told, "+name, &fresh, p.all())
			fresh = *old
			notes(t, "7.1: one that has a copy, "+name, old, x, want)
			holds(t, "7.1: one was told, not its copy, "+name, &fresh, start)
			holds(t, "7.1: one that was told, "+name, old, p.all())
		}
	}
}

func TestCopiesOfCopies(t *testing.T) {
	first := OfAll(sess(1, 1, "a"), sess(2, 2, "b"))
	second := first
	notes(t, "7.1: a copy", &second, sess(1, 5, "c"), true)
	third := second
	notes(t, "7.1: a copy of a copy", &third, sess(0, 1, "d"), true)
	list := []Sessions{first, second, third}
	inList := list[2]
	notes(t, "7.1: one in a list", &list[2], sess(3, 1, "e"), true)
	notes(t, "7.1: one in a list", &list[0], sess(2, 3, "f"), true)
	handed := func(s Sessions) Sessions { s.Note(sess(3, 7, "g")); return s }(second)
	for _, c := range []struct {
		what string
		s    *Sessions
		want []api.Sess
	}{
		{"the first one", &first, []api.Sess{sess(1, 1, "a"), sess(2, 2, "b")}},
		{"its copy", &second, []api.Sess{sess(1, 5, "c"), sess(2, 2, "b")}},
		{"the copy's copy", &third, []api.Sess{sess(0, 1, "d"), sess(1, 5, "c"), sess(2, 2, "b")}},
		{"a copy in a list", &list[0], []api.Sess{sess(1, 1, "a"), sess(2, 3, "f")}},
		{"another one in a list", &list[1], []api.Sess{sess(1, 5, "c"), sess(2, 2, "b")}},
		{"the last one in a list", &list[2], []api.Sess{sess(0, 1, "d"), sess(1, 5, "c"), sess(2, 2, "b"), sess(3, 1, "e")}},
		{"a copy of that, ahead of it", &inList, []api.Sess{sess(0, 1, "d"), sess(1, 5, "c"), sess(2, 2, "b")}},
		{"one that was handed in", &handed, []api.Sess{sess(1, 5, "c"), sess(2, 2, "b"), sess(3, 7, "g")}},
	} {
		holds(t, "7.1: "+c.what, c.s, c.want)
	}
}

// A number that a copy was told is free in the other one, with an answer of its own.
func TestACopyHasNumbersOfItsOwn(t *testing.T) {
	one := OfAll(sess(1, 1, "both"))
	two := one
	notes(t, "7.1: one", &one, sess(1, 2, "one"), true)
	notes(t, "7.1: its copy", &two, sess(1, 2, "two"), true)
	notes(t, "7.1: one, again", &one, sess(1, 2, "two"), false)
	notes(t, "7.1: its copy, again", &two, sess(1, 2, "one"), false)
	holds(t, "7.1: one", &one, []api.Sess{sess(1, 2, "one")})
	holds(t, "7.1: its copy", &two, []api.Sess{sess(1, 2, "two")})
}

// holder has sessions embedded, as a shard has.
type holder struct {
	Sessions
	ID int
}

func TestSessionsThatAreEmbedded(t *testing.T) {
	var one holder
	if !one.Note(sess(1, 1, "a")) || one.Note(sess(1, 1, "b")) {
		t.Error("7.1: Note of embedded sessions")
	}
	two := one
	if !two.Note(sess(1, 2, "c")) {
		t.Error("7.1: Note of a copy of embedded sessions")
	}
	three := holder{Sessions: OfAll(sess(3, 3, "d")), ID: 3}
	holds(t, "7.1: embedded sessions", &one.Sessions, []api.Sess{sess(1, 1, "a")})
	holds(t, "7.1: a copy of embedded sessions", &two.Sessions, []api.Sess{sess(1, 2, "c")})
	if got, ok := three.Last(3); got != sess(3, 3, "d") || !ok {
		t.Errorf("7.1: Last of embedded sessions: %v, %t", got, ok)
	}
	if got := three.All(); !slices.Equal(got, []api.Sess{sess(3, 3, "d")}) {
		t.Errorf("7.1: All of embedded sessions: %v", got)
	}
}

// plain is sessions as a map.
type plain map[int]api.Sess

func (p plain) note(x api.Sess) bool {
	last, there := p[x.Client]
	switch {
	case x.Client < 0 || x.Client > 3, x.Seq < 1, there && last.Seq >= x.Seq:
		return false
	}
	p[x.Client] = x
	return true
}

func (p plain) all() []api.Sess {
	var l []api.Sess
	for _, client := range slices.Sorted(maps.Keys(p)) {
		l = append(l, p[client])
	}
	return l
}

func plainOf(l []api.Sess) plain {
	p := plain{}
	for _, x := range l {
		p[x.Client] = x
	}
	return p
}

func anySess(r *rand.Rand) api.Sess {
	x := failed(r.Intn(api.MaxClients), 1+r.Intn(30), api.Errno(r.Intn(12)), strings.Repeat("v", r.Intn(20)))
	switch r.Intn(10) {
	case 0:
		x.Client = strangers[r.Intn(len(strangers))]
	case 1:
		x.Seq = -r.Intn(3)
	}
	return x
}

// Now and then the run goes on with a copy; the old one is told other things, and forgotten.
func TestAnyRunIsThatOfAMap(t *testing.T) {
	r := rand.New(rand.NewSource(9))
	answered := map[bool]int{}
	for range 200 {
		s, p := &Sessions{}, plain{}
		var run []api.Sess
		for range 100 {
			x := anySess(r)
			run = append(run, x)
			want := p.note(x)
			answered[want]++
			notes(t, "7.1: any run", s, x, want)
			holds(t, "7.1: any run", s, p.all())
			if r.Intn(20) == 0 {
				fresh := *s
				for range 5 {
					s.Note(anySess(r))
				}
				s = &fresh
				holds(t, "7.1: any run, a copy", s, p.all())
			}
		}
		if same := OfAll(run...); same != *s {
			t.Fatalf("7.1: OfAll of any run: %v, not %v", same.All(), s.All())
		}
		if same := OfAll(s.All()...); same != *s {
			t.Fatalf("7.1: any run: %v has more than All tells", s.All())
		}
	}
	if answered[true] < 1000 || answered[false] < 1000 {
		t.Errorf("runs with too little in them: %v", answered)
	}
}

func TestTheSameRunAnswersTheSame(t *testing.T) {
	one, two := &Sessions{}, &Sessions{}
	first, second := rand.New(rand.NewSource(10)), rand.New(rand.NewSource(10))
	for range 2000 {
		x := anySess(first)
		notes(t, "R4: the same run", one, x, two.Note(anySess(second)))
		if !slices.Equal(one.All(), two.All()) {
			t.Fatalf("R4: the same run: %v, %v", one.All(), two.All())
		}
	}
}

func TestAskingChangesNothing(t *testing.T) {
	for name, start := range starts() {
		s := made(t, start)
		old := *s
		for range 3 {
			for client := -1; client <= api.MaxClients; client++ {
				s.Last(client)
			}
			s.All()
			OfAll(s.All()...)
		}
		if *s != old {
			t.Errorf("7.1: %s: asking changed it: %v", name, s.All())
		}
	}
}

func TestWhatIsHandedInStays(t *testing.T) {
	list := []api.Sess{sess(3, 3, "c"), sess(1, 1, "a"), {}, sess(1, 9, "b"), sess(4, 1, "x"), sess(1, 2, "y"), sess(0, 1, "spare"), sess(2, 1, "room")}
	old := slices.Clone(list)
	s := OfAll(list[:6]...)
	holds(t, "7.1: OfAll", &s, []api.Sess{sess(1, 9, "b"), sess(3, 3, "c")})
	for _, x := range []api.Sess{sess(0, 5, "d"), sess(1, 10, "e"), sess(3, 4, "f"), sess(2, 1, "g")} {
		notes(t, "7.1: a run", &s, x, true)
	}
	if !slices.Equal(list, old) {
		t.Errorf("R2: the list that was spread was changed: %v", list)
	}
}

var spoiled = failed(1, 77, api.ErrState, "!")

// spoil overwrites l, its spare room too.
func spoil(l []api.Sess) {
	l = l[:cap(l)]
	for k := range l {
		l[k] = spoiled
	}
}

func isSpoiled(l []api.Sess) bool {
	return !slices.ContainsFunc(l[:cap(l)], func(x api.Sess) bool { return x != spoiled })
}

func TestAListThatIsSpreadIsNotKept(t *testing.T) {
	for name, start := range starts() {
		list := append(slices.Clone(start), sess(0, 1, "spare"), sess(1, 1, "room"))
		s := OfAll(list[:len(start)]...)
		spoil(list)
		holds(t, "R2: the list was overwritten, "+name, &s, start)
		for _, x := range someNotes() {
			s.Note(x)
		}
		if !isSpoiled(list) {
			t.Errorf("R2: %s: a call behind OfAll writes to its list: %v", name, list)
		}
	}
}

func TestWhatAllAnswersIsNewMemory(t *testing.T) {
	for name, start := range starts() {
		s := made(t, start)
		fresh := *s
		first, second := s.All(), s.All()
		spoil(first)
		_ = append(first, sess(2, 88, "more"))
		spoil(first)
		if !slices.Equal(second, start) {
			t.Errorf("R2: %s: two answers of All are one: %v", name, second)
		}
		holds(t, "R2: an answer was overwritten, "+name, s, start)
		holds(t, "R2: an answer was overwritten, not a copy, "+name, &fresh, start)
		if *s != fresh {
			t.Errorf("R2: %s: spare room that is the sessions' own was overwritten", name)
		}
		for _, x := range someNotes() {
			s.Note(x)
		}
		if !slices.Equal(second, start) {
			t.Errorf("R2: %s: an answer of All follows its sessions: %v", name, second)
		}
		if !isSpoiled(first) {
			t.Errorf("R2: %s: a call behind All writes to its answer: %v", name, first)
		}
	}
}

func TestTwoSessionsKnowNothingOfOneAnother(t *testing.T) {
	list := []api.Sess{sess(1, 1, "a"), sess(2, 2, "b")}
	one, two := OfAll(list...), OfAll(list...)
	var three Sessions
	notes(t, "R7: one", &one, sess(1, 5, "one"), true)
	notes(t, "R7: the other one", &two, sess(1, 4, "two"), true)
	notes(t, "R7: a third one", &three, sess(1, 1, "three"), true)
	holds(t, "R7: one", &one, []api.Sess{sess(1, 5, "one"), sess(2, 2, "b")})
	holds(t, "R7: the other one", &two, []api.Sess{sess(1, 4, "two"), sess(2, 2, "b")})
	holds(t, "R7: a third one", &three, []api.Sess{sess(1, 1, "three")})
	two = OfAll(one.All()...)
	notes(t, "R7: one", &one, sess(1, 6, "more"), true)
	holds(t, "R7: all of another one", &two, []api.Sess{sess(1, 5, "one"), sess(2, 2, "b")})
}

func FuzzNote(f *testing.F) {
	f.Add(1, 3, "", 1, 3, "")
	f.Add(0, 1, "a", api.MaxClients-1, 1, "b")
	f.Add(-1, 1, "a", api.MaxClients, 1, "b")
	f.Add(2, 0, "a", 2, math.MaxInt, "b")
	f.Fuzz(func(t *testing.T, client, seq int, value string, client2, seq2 int, value2 string) {
		for name, start := range starts() {
			s, p := made(t, start), plainOf(start)
			for _, x := range []api.Sess{sess(client, seq, value), sess(client2, seq2, value2)} {
				notes(t, "7.1: any number, "+name, s, x, p.note(x))
				holds(t, "7.1: any number, "+name, s, p.all())
			}
		}
	})
}
