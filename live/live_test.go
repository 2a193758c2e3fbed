package live_test

import (
	"encoding/hex"
	"math/rand/v2"
	"reflect"
	"slices"
	"testing"

	"pharos/api"
	"pharos/live"
	"pharos/state"
)

// one is the chapter's: the zero state with one validator and a balance.
func one(balance uint64) api.State {
	return api.State{Validators: []api.Validator{{}}, Balances: []uint64{balance}, Previous: []uint8{0}, Current: []uint8{0}, Scores: []uint64{0}}
}

func TestExamples(t *testing.T) {
	l := live.New(one(5))
	if got, want := l.Root(), rootState(t, one(5)); got != want {
		t.Errorf("Root: %x; want %x", got, want)
	}
	if err := l.Balance(0, 6); err != api.OK {
		t.Errorf("Balance(0, 6): error %d", err)
	}
	if got, want := l.Root(), rootState(t, one(6)); got != want {
		t.Errorf("Root behind Balance(0, 6): %x; want %x", got, want)
	}
	if err := l.Balance(1, 6); err != api.ErrArg {
		t.Errorf("Balance(1, 6): error %d", err)
	}
	if err := l.Balance(0, 1<<58); err != api.ErrArg {
		t.Errorf("Balance(0, 2^58): error %d", err)
	}
	if !same(l.State(), one(6)) || l.Root() != rootState(t, one(6)) {
		t.Errorf("the refused calls changed the state")
	}
}

// TestKnownRoots: against roots that were reckoned apart from the program.
func TestKnownRoots(t *testing.T) {
	check := func(l *live.Live, what, want string) {
		t.Helper()
		if r := l.Root(); hex.EncodeToString(r[:]) != want {
			t.Errorf("%s: Root %x; want %s", what, r, want)
		}
	}
	check(live.New(api.State{}), "the zero state", "fd4663a124ea8fe605c6ebfdf1995fe33f820afe062da454426be43371f92601")
	l := live.New(one(5))
	check(l, "one validator", "62495432752100bb41ede1585391658a68a7c1b17f2db638b3223e3cc76e01a4")
	l.Balance(0, 6)
	check(l, "Balance(0, 6)", "35cc2e824269d9567cafec240ed3bb6877746548cc101c99f2a85ba370c08e2b")
	l.Join(api.Validator{Effective: 1000000000}, 3)
	l.Score(1, 7)
	l.Flags(1, 2, 3)
	check(l, "Join, Score and Flags", "0024dbf3a7df863d89f3cdbdd212c84f2dbbadc3fbf708002ddd2eded6228e77")
	v := api.Validator{Effective: 32000000000, Slashed: true, Eligible: 1, Activation: 2, Exit: far, Withdrawable: far}
	for i := range v.Key {
		v.Key[i] = byte(i)
	}
	for i := range v.Credentials {
		v.Credentials[i] = byte(100 + i)
	}
	l.Validator(1, v)
	check(l, "Validator", "dc8211ec98fbac00ef3d71eda4a96bd89572293b269ea3ea5a4908e873a7a742")
	l.Put(api.State{})
	check(l, "Put of the zero state", "fd4663a124ea8fe605c6ebfdf1995fe33f820afe062da454426be43371f92601")
}

// P11.1

func TestNewStateAndRoot(t *testing.T) {
	for _, n := range append(counts(), 100, 1000) {
		x := sample(n, 7)
		if !state.Right(x) {
			t.Fatalf("the sample of %d validators isn't right", n)
		}
		w := begin(t, x)
		w.wantState(t, "New")
		w.ask(t, "New")
		w.wantState(t, "Root")
		w.ask(t, "Root")
	}
	begin(t, api.State{}).doAll(t, join(member(3), 5))
}

// odd is a state that isn't right, or is so just yet.
type odd struct {
	name string
	x    api.State
}

// odds are samples of five validators with a change each.
func odds(changes map[string]func(x *api.State)) []odd {
	var all []odd
	for name, change := range changes {
		x := sample(5, 3)
		change(&x)
		all = append(all, odd{name, x})
	}
	slices.SortFunc(all, func(a, b odd) int { return slices.Compare([]byte(a.name), []byte(b.name)) })
	return all
}

// wrongStates break each condition of a right state.
func wrongStates() []odd {
	return odds(map[string]func(x *api.State){
		"a validator more":               func(x *api.State) { x.Validators = append(x.Validators, member(1)) },
		"a balance more":                 func(x *api.State) { x.Balances = append(x.Balances, 1) },
		"a previous flag more":           func(x *api.State) { x.Previous = append(x.Previous, 1) },
		"a current flag more":            func(x *api.State) { x.Current = append(x.Current, 1) },
		"a score more":                   func(x *api.State) { x.Scores = append(x.Scores, 1) },
		"a validator fewer":              func(x *api.State) { x.Validators = x.Validators[:4] },
		"a balance fewer":                func(x *api.State) { x.Balances = x.Balances[:4] },
		"a previous flag fewer":          func(x *api.State) { x.Previous = x.Previous[:4] },
		"a current flag fewer":           func(x *api.State) { x.Current = x.Current[:4] },
		"a score fewer":                  func(x *api.State) { x.Scores = x.Scores[:4] },
		"no scores":                      func(x *api.State) { x.Scores = nil },
		"a history too long":             func(x *api.State) { x.History = make([]api.Root, 1025) },
		"votes too many":                 func(x *api.State) { x.Votes = make([]api.Eth1, 9) },
		"validators too many":            func(x *api.State) { *x = sample(65537, 3) },
		"a late slot":                    func(x *api.State) { x.Slot = 1 << 40 },
		"deposits too many":              func(x *api.State) { x.Deposits = 1 << 40 },
		"a header ahead of the slot":     func(x *api.State) { x.Header.Slot = x.Slot + 1 },
		"OldJust ahead of the slot":      func(x *api.State) { x.OldJust.Epoch = x.Slot/4 + 1 },
		"Just ahead of the slot":         func(x *api.State) { x.Just.Epoch = x.Slot/4 + 1 },
		"Final ahead of the slot":        func(x *api.State) { x.Final.Epoch = x.Slot/4 + 1 },
		"an Effective between":           func(x *api.State) { x.Validators[2].Effective = 31000000001 },
		"an Effective too great":         func(x *api.State) { x.Validators[4].Effective = 33000000000 },
		"a late Eligible":                func(x *api.State) { x.Validators[0].Eligible = 1 << 41 },
		"a late Activation":              func(x *api.State) { x.Validators[1].Activation = far - 1 },
		"a late Exit":                    func(x *api.State) { x.Validators[3].Exit = 1 << 41 },
		"a late Withdrawable":            func(x *api.State) { x.Validators[4].Withdrawable = 1 << 63 },
		"a score too great":              func(x *api.State) { x.Scores[4] = 1<<40 + 1 },
		"balances too great":             func(x *api.State) { copy(x.Balances, []uint64{1 << 56, 1 << 55, 1 << 55, 0, 1}) },
		"balances whose sum wraps":       func(x *api.State) { copy(x.Balances, []uint64{1 << 63, 1 << 63, 0, 0, 0}) },
		"slashings too great":            func(x *api.State) { x.Slashings = [8]uint64{1 << 56, 1 << 56, 1} },
		"slashings whose sum wraps":      func(x *api.State) { x.Slashings = [8]uint64{1 << 63, 0, 0, 0, 0, 0, 0, 1 << 63} },
		"no validators but all the rest": func(x *api.State) { x.Validators = nil },
	})
}

// edgeStates are right just yet.
func edgeStates() []odd {
	return odds(map[string]func(x *api.State){
		"the longest history":    func(x *api.State) { x.History = slices.Repeat([]api.Root{root(9)}, 1024) },
		"no history":             func(x *api.State) { x.History = nil },
		"all votes":              func(x *api.State) { x.Votes = slices.Repeat([]api.Eth1{{Count: 1 << 63}}, 8) },
		"no votes":               func(x *api.State) { x.Votes = nil },
		"the last slot":          func(x *api.State) { x.Slot = 1<<40 - 1 },
		"all deposits":           func(x *api.State) { x.Deposits = 1<<40 - 1 },
		"a header of the slot":   func(x *api.State) { x.Header.Slot = x.Slot },
		"all of the slot's":      func(x *api.State) { x.OldJust.Epoch, x.Just.Epoch, x.Final.Epoch = x.Slot/4, x.Slot/4, x.Slot/4 },
		"the greatest Effective": func(x *api.State) { x.Validators[4].Effective = 32000000000 },
		"the last epochs":        func(x *api.State) { x.Validators[0].Eligible, x.Validators[0].Exit = 1<<41-1, 1<<41-1 },
		"the greatest score":     func(x *api.State) { x.Scores[4] = 1 << 40 },
		"the greatest balances":  func(x *api.State) { copy(x.Balances, []uint64{1 << 56, 1 << 55, 1 << 54, 1 << 53, 1 << 53}) },
		"one greatest balance":   func(x *api.State) { copy(x.Balances, []uint64{0, 0, 1 << 57, 0, 0}) },
		"the greatest slashings": func(x *api.State) { x.Slashings = [8]uint64{1 << 56, 0, 0, 0, 0, 0, 0, 1 << 56} },
		"great numbers": func(x *api.State) {
			x.Genesis, x.Fork.Epoch, x.Header.Proposer, x.Eth1.Count = far, far, far, far
		},
	})
}

func TestNewOfWrongStates(t *testing.T) {
	t.Parallel()
	for _, o := range wrongStates() {
		before := whole(&o.x)
		if state.Right(o.x) || live.New(o.x) != nil {
			t.Errorf("New, %s: not nil", o.name)
		}
		if whole(&o.x) != before {
			t.Errorf("New, %s: the state was changed", o.name)
		}
	}
}

func TestNewAndPutAtTheEdges(t *testing.T) {
	for _, o := range edgeStates() {
		begin(t, o.x).ask(t, o.name)
		w := begin(t, sample(5, 4))
		w.ask(t, "New")
		w.put(t, o.x)
		w.wantState(t, o.name)
		w.ask(t, o.name)
	}
}

// TestWrongPut changes neither state nor root nor hashes, whether a root was asked for or not.
func TestWrongPut(t *testing.T) {
	t.Parallel()
	for _, o := range wrongStates() {
		for _, asked := range []bool{true, false} {
			w := begin(t, sample(7, 1))
			w.do(t, balance(3, 9))
			if asked {
				w.ask(t, "Balance")
			}
			before, hashes := whole(&o.x), w.l.Hashes()
			if err := w.l.Put(o.x); err != api.ErrArg {
				t.Errorf("Put, %s: error %d", o.name, err)
			}
			if w.l.Hashes() != hashes || whole(&o.x) != before {
				t.Errorf("Put, %s: %d hashes more, or the state that is handed in was changed", o.name, w.l.Hashes()-hashes)
			}
			w.wantState(t, o.name)
			w.ask(t, o.name)
			w.doAll(t, balance(3, 10), join(member(1), 2))
		}
	}
}

// TestPut of more validators, of fewer and of as many, with and without a root in between.
func TestPut(t *testing.T) {
	t.Parallel()
	for _, from := range counts() {
		for _, to := range counts() {
			for _, asked := range []bool{true, false} {
				w := begin(t, sample(from, 1))
				if asked {
					w.ask(t, "New")
				}
				w.put(t, sample(to, 2))
				w.wantState(t, "Put")
				if asked {
					w.ask(t, "Put")
				}
				w.do(t, join(member(9), 4))
				w.do(t, flags(to, 5, 6))
				w.do(t, score(to/2, 77))
				w.wantState(t, "Put and three calls")
				w.ask(t, "Put and three calls")
				w.put(t, sample(from, 1))
				w.wantState(t, "Put of the first state")
				w.ask(t, "Put of the first state")
			}
		}
	}
}

// TestPutOfEachField alone, of a state that is another one in all fields.
func TestPutOfEachField(t *testing.T) {
	x, y := sample(5, 1), sample(5, 2)
	w := begin(t, x)
	w.ask(t, "New")
	last := w.l.Root()
	for i := range reflect.TypeFor[api.State]().NumField() {
		name := reflect.TypeFor[api.State]().Field(i).Name
		reflect.ValueOf(&x).Elem().Field(i).Set(reflect.ValueOf(y).Field(i))
		w.put(t, x)
		w.wantState(t, "Put of another "+name)
		w.ask(t, "Put of another "+name)
		if w.l.Root() == last {
			t.Errorf("Put of another %s: the root is what it was", name)
		}
		last = w.l.Root()
	}
	if last != rootState(t, y) {
		t.Errorf("Put of all fields: another root")
	}
}

// TestPutCountsBalancesAnew: the sum is that of the new state.
func TestPutCountsBalancesAnew(t *testing.T) {
	for _, n := range []int{1, 2, 3} {
		w := begin(t, sample(2, 1))
		w.do(t, balance(0, 1<<56))
		x := sample(n, 1)
		clear(x.Balances)
		x.Balances[0] = 5
		w.put(t, x)
		w.doAll(t, join(member(1), 1<<57-4), join(member(1), 1<<57-5), join(member(1), 1), balance(0, 6), balance(0, 4), join(member(2), 1))
	}
}

// TestAnswersAndArgumentsAreApart: what is answered and what is handed in may be changed by the caller, its spare room too.
func TestAnswersAndArgumentsAreApart(t *testing.T) {
	for _, n := range []int{0, 1, 5, 33} {
		for _, asked := range []bool{true, false} {
			x := sample(n, 3)
			before := whole(&x)
			w := begin(t, x)
			w.do(t, join(member(70), 8))
			if asked {
				w.ask(t, "Join")
			}
			if whole(&x) != before {
				t.Errorf("%d validators: New or Join wrote into the state that was handed in", n)
			}
			spoil(&x)
			w.wantState(t, "New's state spoilt")

			answered, other := w.l.State(), w.l.State()
			spoil(&answered)
			if !same(other, w.x) {
				t.Errorf("%d validators: two answers of State share memory", n)
			}
			w.wantState(t, "State's answer spoilt")
			grown := append(other.Balances, 1)
			w.do(t, join(member(71), 9))
			w.do(t, flags(n, 1, 2))
			if grown[n+1] != 1 || other.Current[n] != 0 {
				t.Errorf("%d validators: Join or Flags wrote into an answer", n)
			}

			y := sample(n+2, 4)
			before = whole(&y)
			w.put(t, y)
			w.do(t, join(member(72), 8))
			w.do(t, balance(0, 8))
			w.do(t, score(0, 8))
			w.do(t, flags(0, 8, 8))
			w.do(t, validator(0, member(73)))
			if whole(&y) != before {
				t.Errorf("%d validators: a call wrote into the state that was put", n)
			}
			spoil(&y)
			w.wantState(t, "Put's state spoilt")
			w.ask(t, "Put's state spoilt")
			w.doAll(t, balance(n+1, 1), validator(n+1, member(74)))
		}
	}
}

// TestListsOfAnAnswer share no memory, their spare room neither.
func TestListsOfAnAnswer(t *testing.T) {
	l := live.New(sample(20, 1))
	l.Join(member(1), 1)
	one, two, three := l.State(), l.State(), l.Copy().State()
	type span struct{ from, to uintptr }
	var spans []span
	for _, x := range []*api.State{&one, &two, &three} {
		for _, list := range lists(x) {
			if list.Len() == 0 {
				t.Fatalf("an empty list")
			}
			from := list.Pointer()
			spans = append(spans, span{from, from + uintptr(list.Cap())*list.Type().Elem().Size()})
		}
	}
	for i, a := range spans {
		for _, b := range spans[:i] {
			if a.from < b.to && b.from < a.to {
				t.Errorf("two lists share memory: %v and %v", a, b)
			}
		}
	}
}

// P11.2 and P11.3

// TestEachCall at places that there are and at such that there aren't, the root held behind each.
func TestEachCall(t *testing.T) {
	t.Parallel()
	for _, n := range counts() {
		w := begin(t, sample(n, 5))
		w.ask(t, "New")
		for k, i := range append(wrongPlaces(n), somePlaces(n)...) {
			w.doAll(t, balance(i, uint64(k+1)), score(i, uint64(k+2)), flags(i, uint8(k+3), uint8(k+4)), validator(i, member(k+100)))
			w.doAll(t, balance(i, 0), score(i, 0), flags(i, 0, 0), validator(i, api.Validator{}))
			w.doAll(t, balance(i, 1<<50), score(i, 1<<40), flags(i, 255, 255), validator(i, member(k+200)))
		}
	}
}

// TestOneOfTwoFlags: each of them has its own tree.
func TestOneOfTwoFlags(t *testing.T) {
	for _, n := range []int{1, 32, 33} {
		w := begin(t, sample(n, 5))
		w.ask(t, "New")
		for i := range n {
			w.doAll(t, flags(i, w.x.Previous[i]+1, w.x.Current[i]), flags(i, w.x.Previous[i], w.x.Current[i]+1))
		}
	}
	w := begin(t, sample(3, 5))
	for v := range 256 {
		w.doAll(t, flags(1, uint8(v), uint8(255-v)))
	}
}

// TestTakenBack: a change that is taken back, and one to what stands there already, with a root between and without.
func TestTakenBack(t *testing.T) {
	for _, n := range []int{1, 5, 33} {
		for _, asked := range []bool{true, false} {
			w := begin(t, sample(n, 5))
			w.ask(t, "New")
			first := w.l.Root()
			for _, i := range somePlaces(n) {
				v, b, s, p, c := w.x.Validators[i], w.x.Balances[i], w.x.Scores[i], w.x.Previous[i], w.x.Current[i]
				for _, x := range []call{
					balance(i, b), score(i, s), flags(i, p, c), validator(i, v),
					balance(i, b+1), score(i, s+1), flags(i, p+1, c+1), validator(i, member(99)),
					balance(i, b), score(i, s), flags(i, p, c), validator(i, v),
				} {
					w.do(t, x)
					if asked {
						w.askAfterCalls(t, x.name)
					}
				}
				w.wantState(t, "changes and back")
			}
			w.askAfterCalls(t, "changes and back")
			if w.l.Root() != first {
				t.Errorf("%d validators: the root isn't what it was", n)
			}
		}
	}
}

// TestSumOfBalances: 2^57 and one more, also where the one that is changed makes room for itself.
func TestSumOfBalances(t *testing.T) {
	const most = 1 << 57
	for _, n := range []int{1, 2, 5} {
		x := sample(n, 1)
		clear(x.Balances)
		w := begin(t, x)
		w.doAll(t, balance(0, most+1), balance(0, most), balance(0, most), balance(0, most+1), balance(0, 1<<58), balance(0, 1<<63), balance(0, far))
		w.doAll(t, join(member(1), 1), join(member(1), far), join(member(1), far-most+1), join(member(1), 0), balance(n, 1), balance(n, far-most+1))
		w.doAll(t, balance(0, most-1), balance(n, 2), balance(n, 1), balance(0, most), balance(0, most-1), join(member(2), 1), balance(n, 0))
		w.doAll(t, join(member(2), 2), join(member(2), 1), balance(n+1, 2), balance(n+1, 1), balance(0, 0), balance(n+1, most), balance(n+1, most+1))
		if w.l.State().Balances[n+1] != most || len(w.x.Validators) != n+2 {
			t.Errorf("the last balance isn't 2^57")
		}
	}
	// Sums that would wrap to something small.
	w := begin(t, sample(2, 1))
	w.doAll(t, balance(0, 5), balance(1, 10), balance(0, far-9), balance(0, far-8), balance(1, far-4), balance(0, far), join(member(1), far-14), join(member(1), far), join(member(1), 1<<63))
	if got := w.l.State().Balances; !slices.Equal(got, []uint64{5, 10}) {
		t.Errorf("balances %v", got)
	}
}

func TestScores(t *testing.T) {
	w := begin(t, sample(5, 1))
	for _, i := range []int{0, 3, 4} {
		for _, n := range []uint64{0, 1, 1<<40 - 1, 1 << 40, 1<<40 + 1, 1 << 41, 1 << 63, far, 7} {
			w.doAll(t, score(i, n))
			if want := n <= 1<<40; (w.l.State().Scores[i] == n) != want {
				t.Errorf("Score(%d, %d) is taken: %v", i, n, !want)
			}
		}
	}
	// Each score is held by itself.
	for i := range 5 {
		w.doAll(t, score(i, 1<<40))
	}
	w.doAll(t, join(member(1), 1), score(5, 1<<40))
}

// oddMembers are validators of all kinds, and whether they may be.
func oddMembers() map[api.Validator]int {
	all := map[api.Validator]int{{}: 1, member(8): 1, {Slashed: true}: 1, {Key: key(1)}: 1, {Credentials: root(1)}: 1}
	for n, ok := range map[uint64]int{
		0: 1, 1: 0, 999999999: 0, 1000000000: 1, 1000000001: 0, 31000000000: 1, 31999999999: 0, 32000000000: 1,
		32000000001: 0, 33000000000: 0, 64000000000: 0, 1 << 63: 0, far: 0, far - far%1000000000: 0,
	} {
		all[api.Validator{Effective: n}] = ok
	}
	for n, ok := range map[uint64]int{0: 1, 1: 1, 1<<41 - 1: 1, 1 << 41: 0, 1<<41 + 1: 0, 1 << 63: 0, far - 1: 0, far: 1} {
		all[api.Validator{Eligible: n}] = ok
		all[api.Validator{Activation: n}] = ok
		all[api.Validator{Exit: n}] = ok
		all[api.Validator{Withdrawable: n}] = ok
		all[api.Validator{Eligible: n, Activation: n, Exit: n, Withdrawable: n}] = ok
	}
	return all
}

func TestValidators(t *testing.T) {
	for v, ok := range oddMembers() {
		want := api.ErrArg
		if ok == 1 {
			want = api.OK
		}
		for _, i := range []int{0, 2, 4} {
			w := begin(t, sample(5, 1))
			if err := w.do(t, validator(i, v)); err != want {
				t.Errorf("Validator(%d, %v): error %d; want %d", i, v, err, want)
			}
			w.wantState(t, "Validator")
			w.ask(t, "Validator")
		}
		w := begin(t, sample(4, 1))
		if err := w.do(t, join(v, 3)); err != want {
			t.Errorf("Join(%v): error %d; want %d", v, err, want)
		}
		w.wantState(t, "Join")
		w.ask(t, "Join")
	}
}

// TestJoin from no validator on: the root behind each, or behind all.
func TestJoin(t *testing.T) {
	for _, asked := range []bool{true, false} {
		w := begin(t, api.State{})
		for i := range 70 {
			w.do(t, join(member(i), uint64(i)))
			if asked {
				w.wantState(t, "Join")
				w.askAfterCalls(t, "Join")
			}
			w.do(t, score(i, uint64(i+1)))
			w.do(t, flags(i, uint8(i+2), uint8(i+3)))
		}
		w.wantState(t, "all joined")
		w.askAfterCalls(t, "all joined")
	}
	w := begin(t, sample(3, 1))
	w.do(t, join(member(50), 17))
	x := w.l.State()
	if x.Validators[3] != member(50) || x.Balances[3] != 17 || x.Previous[3] != 0 || x.Current[3] != 0 || x.Scores[3] != 0 {
		t.Errorf("Join: %v, %d, %d, %d, %d", x.Validators[3], x.Balances[3], x.Previous[3], x.Current[3], x.Scores[3])
	}
}

// TestMostValidators: as many as may be; what is refused then is refused as too long, whatever it is.
func TestMostValidators(t *testing.T) {
	t.Parallel()
	x := sample(65535, 1)
	for i := range x.Balances {
		x.Balances[i] = uint64(i)
	}
	l := live.New(x)
	if l.Root() != rootState(t, x) {
		t.Errorf("65535 validators: another root")
	}
	before := l.Hashes()
	for _, c := range []struct {
		v       api.Validator
		balance uint64
		want    api.Errno
	}{
		{api.Validator{Effective: 1}, 1, api.ErrArg},
		{member(1), 1 << 57, api.ErrArg},
		{member(1), far, api.ErrArg},
		{member(1), 11, api.OK},
		{member(2), 12, api.ErrLong},
		{api.Validator{Effective: 1}, 1, api.ErrLong},
		{member(2), far, api.ErrLong},
		{api.Validator{Exit: 1 << 50}, far, api.ErrLong},
	} {
		if err := l.Join(c.v, c.balance); err != c.want {
			t.Errorf("Join(%v, %d): error %d; want %d", c.v, c.balance, err, c.want)
		}
	}
	if err := l.Balance(65535, 13); err != api.OK {
		t.Errorf("Balance(65535, 13): error %d", err)
	}
	if err := l.Balance(65536, 13); err != api.ErrArg {
		t.Errorf("Balance(65536, 13): error %d", err)
	}
	x.Validators, x.Balances = append(x.Validators, member(1)), append(x.Balances, 13)
	x.Previous, x.Current, x.Scores = append(x.Previous, 0), append(x.Current, 0), append(x.Scores, 0)
	if !same(l.State(), x) || l.Root() != rootState(t, x) {
		t.Errorf("65536 validators: another state, or another root")
	}
	if took := l.Hashes() - before; took > 66*2 {
		t.Errorf("Join and Balance took %d hashes", took)
	}
	if err := l.Put(one(5)); err != api.OK || l.Root() != rootState(t, one(5)) || l.Join(member(1), 1) != api.OK {
		t.Errorf("Put of one validator where there are 65536: error %d, or another root", err)
	}
}

// TestRefusedCallsChangeNothing: the state, the root and the count of hashes are as they were, with changes that are still open and without.
func TestRefusedCallsChangeNothing(t *testing.T) {
	late, between := api.Validator{Exit: 1 << 41}, api.Validator{Effective: 5}
	for _, n := range []int{0, 1, 4, 33} {
		for _, open := range []bool{true, false} {
			refused := []call{join(late, 1), join(between, 1), join(member(1), 1<<57+1), join(member(1), far), join(late, far)}
			for _, i := range wrongPlaces(n) {
				refused = append(refused, balance(i, 1), score(i, 1), flags(i, 1, 1), validator(i, member(1)), balance(i, far), validator(i, late))
			}
			for _, i := range somePlaces(n) {
				refused = append(refused, balance(i, 1<<57+1), balance(i, far), score(i, 1<<40+1), score(i, far), validator(i, late), validator(i, between))
			}
			for _, c := range refused {
				w := begin(t, sample(n, 1))
				w.ask(t, "New")
				if open && n > 0 {
					w.do(t, balance(n-1, 3))
					w.do(t, join(member(6), 4))
				}
				if _, err := c.makes(w.x); err == api.OK {
					continue // there is such a place by now
				}
				x, hashes := w.l.State(), w.l.Hashes()
				if err := w.do(t, c); err != api.ErrArg {
					t.Errorf("%d validators, %s: error %d", n, c.name, err)
				}
				if !same(w.l.State(), x) || w.l.Hashes() != hashes {
					t.Errorf("%d validators, %s: another state, or %d hashes more", n, c.name, w.l.Hashes()-hashes)
				}
				w.ask(t, c.name)
			}
		}
	}
}

// chanceCall at about so many validators, mostly one that is taken.
func chanceCall(r *rand.Rand, n, v int) call {
	i := r.IntN(n+3) - 1
	if r.IntN(20) == 0 {
		i = wrongPlaces(n)[r.IntN(len(wrongPlaces(n)))]
	}
	amounts := []uint64{0, 1, uint64(v), 31000000000, 1 << 40, 1<<40 + 1, 1 << 55, 1 << 57, 1<<57 + 1, 1 << 63, far}
	amount := amounts[r.IntN(len(amounts))]
	if r.IntN(3) > 0 {
		amount = r.Uint64N(1 << 42)
	}
	who := member(v)
	switch r.IntN(12) {
	case 0:
		who.Effective = r.Uint64N(34) * 1000000000
	case 1:
		who.Effective++
	case 2:
		who.Exit = uint64(1<<41 - 1 + r.IntN(2))
	}
	switch r.IntN(6) {
	case 0:
		return balance(i, amount)
	case 1:
		return score(i, amount)
	case 2:
		return flags(i, uint8(r.IntN(3)), uint8(r.IntN(3)))
	case 3:
		return validator(i, who)
	case 4:
		return join(who, amount)
	}
	return flags(i, uint8(v), uint8(r.IntN(256)))
}

// TestLongWalks: mixed calls, roots asked for in between seldom, often or not at all.
func TestLongWalks(t *testing.T) {
	t.Parallel()
	r := rand.New(rand.NewPCG(11, 1))
	seen := map[api.Errno]int{}
	for _, n := range []int{0, 1, 3, 4, 30, 32, 61} {
		for _, often := range []int{1, 3, 20, 1000} {
			w := begin(t, sample(n, n))
			w.ask(t, "New")
			for v := range 150 {
				c := chanceCall(r, len(w.x.Validators), v)
				seen[w.do(t, c)]++
				if v%often == often-1 {
					w.askAfterCalls(t, c.name)
				}
				if v%16 == 0 {
					w.wantState(t, c.name)
				}
			}
			w.wantState(t, "the walk")
			w.askAfterCalls(t, "the walk")
		}
	}
	if seen[api.OK] < 500 || seen[api.ErrArg] < 200 {
		t.Errorf("the walks' errors: %v", seen)
	}
}

// TestNilAndEmptyLists are the same.
func TestNilAndEmptyLists(t *testing.T) {
	empty := api.State{History: []api.Root{}, Votes: []api.Eth1{}, Validators: []api.Validator{}, Balances: []uint64{}, Previous: []uint8{}, Current: []uint8{}, Scores: []uint64{}}
	a, b := live.New(api.State{}), live.New(empty)
	for range 3 {
		if a.Root() != b.Root() || !same(a.State(), b.State()) || a.Hashes() != b.Hashes() {
			t.Errorf("%d validators: empty lists aren't as nil", len(a.State().Validators))
		}
		a.Join(member(1), 1)
		b.Join(member(1), 1)
	}
	if a.Put(empty) != api.OK || b.Put(api.State{}) != api.OK || a.Root() != b.Root() {
		t.Errorf("Put of empty lists isn't as of nil")
	}
}
