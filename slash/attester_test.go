package slash_test

import (
	"fmt"
	"slices"
	"testing"

	"pharos/api"
)

// P18.3

func TestAttesterOfSlotsAndNumbers(t *testing.T) {
	for _, n := range []int{1, 2, 3, 16, 64, 300} {
		for _, slot := range someSlots() {
			x := withValidators(slot, members(n, uint64(17+slot%16))...)
			who := upTo(0, min(n, 64))
			y := wantAttester(t, fmt.Sprintf("slot %d, all of %d", slot, n), x, doubleOf(who, who), nil, who...)
			if !slices.Equal(slashedOf(y), who) {
				t.Errorf("slot %d, %d: slashed are %d", slot, n, slashedOf(y))
			}
			last := uint64(n - 1)
			wantAttester(t, fmt.Sprintf("slot %d, the last of %d", slot, n), x, doubleOf([]uint64{last}, []uint64{last}), nil, last)
		}
	}
}

// TestAttesterWho: those in both, rising, whoever is in one alone.
func TestAttesterWho(t *testing.T) {
	x := withValidators(103, members(16, full)...)
	for _, c := range []struct{ one, two, both []uint64 }{
		{[]uint64{0}, []uint64{0}, []uint64{0}},
		{[]uint64{15}, []uint64{15}, []uint64{15}},
		{[]uint64{3, 7}, []uint64{3, 7}, []uint64{3, 7}},
		{[]uint64{3, 7}, []uint64{7, 9}, []uint64{7}},
		{[]uint64{7, 9}, []uint64{3, 7}, []uint64{7}},
		{[]uint64{0, 1, 2, 3}, []uint64{3, 4, 5}, []uint64{3}},
		{[]uint64{0, 2, 4, 6, 8}, []uint64{1, 2, 3, 6, 7, 8, 15}, []uint64{2, 6, 8}},
		{upTo(0, 16), []uint64{5, 11}, []uint64{5, 11}},
		{[]uint64{0, 15}, upTo(0, 16), []uint64{0, 15}},
		{[]uint64{1, 2}, []uint64{3, 4}, nil},
		{[]uint64{0}, []uint64{15}, nil},
		{[]uint64{0, 2, 4, 6}, []uint64{1, 3, 5, 7}, nil},
	} {
		s, what := doubleOf(c.one, c.two), fmt.Sprintf("%d and %d", c.one, c.two)
		if c.both == nil {
			wantNoAttester(t, what, x, s, nil, api.BadSlashed, askedOfAttests(x, s)...)
			continue
		}
		y := wantAttester(t, what, x, s, nil, c.both...)
		if !slices.Equal(slashedOf(y), c.both) {
			t.Errorf("%s: slashed are %d", what, slashedOf(y))
		}
	}
}

// TestAttesterExits: they leave in the order of their indices, two an epoch.
func TestAttesterExits(t *testing.T) {
	x := withValidators(103, members(9, full)...)
	y := wantAttester(t, "seven", x, doubleOf(upTo(0, 7), upTo(0, 9)), nil, upTo(0, 7)...)
	if want := []uint64{28, 28, 29, 29, 30, 30, 31, far, far}; !slices.Equal(exitsOf(y), want) {
		t.Errorf("exits %d; want %d", exitsOf(y), want)
	}
	z := withValidators(103, leavers(31, far, 5, far, far, 28, far)...)
	y = wantAttester(t, "some who leave already", z, doubleOf([]uint64{0, 1, 3, 4, 5, 6}, []uint64{0, 1, 3, 4, 5, 6}), nil, 0, 1, 3, 4, 5, 6)
	if want := []uint64{31, 31, 5, 32, 32, 28, 33}; !slices.Equal(exitsOf(y), want) {
		t.Errorf("exits %d; want %d", exitsOf(y), want)
	}
	var withdrawables []uint64
	for _, v := range y.Validators {
		withdrawables = append(withdrawables, v.Withdrawable)
	}
	if want := []uint64{33, 33, 7, 34, 34, 33, 35}; !slices.Equal(withdrawables, want) {
		t.Errorf("withdrawables %d; want %d", withdrawables, want)
	}
	great := wantAttester(t, "64", withValidators(103, members(128, full)...), doubleOf(upTo(60, 64), upTo(60, 64)), nil, upTo(60, 64)...)
	if great.Validators[60].Exit != 28 || great.Validators[63].Exit != 28 || great.Validators[64].Exit != 29 || great.Validators[123].Exit != 43 || great.Slashings[1] != 65*32*gwei-31*gwei {
		t.Errorf("64 of 128: exits %d, slashings %d", exitsOf(great), great.Slashings)
	}
}

// TestAttesterPays: the proposer is given a part of each, also of its own.
func TestAttesterPays(t *testing.T) {
	x := withValidators(103, members(5, full)...)
	proposer, _ := plainProposer(x)
	for n := 1; n <= 5; n++ {
		who := upTo(0, n)
		y := wantAttester(t, fmt.Sprint("the first ones: ", n), x, doubleOf(who, who), nil, who...)
		for i := range uint64(5) {
			want := x.Balances[i]
			if i < uint64(n) {
				want -= half
			}
			if i == proposer {
				want += uint64(n) * sixteenth
			}
			if y.Balances[i] != want {
				t.Errorf("%d are slashed, proposer %d: balance %d is %d; want %d", n, proposer, i, y.Balances[i], want)
			}
		}
	}
}

// TestAttesterBalanceOfTheProposer: what it was given for those ahead of it is there, when something is taken from it.
func TestAttesterBalanceOfTheProposer(t *testing.T) {
	x := withValidators(103, members(12, full)...)
	for mix := 0; ; mix++ {
		if proposer, _ := plainProposer(x); proposer == 9 {
			break
		}
		x.Mixes[7] = rootOf("a mix for the tenth", mix)
	}
	x.Balances[9] = 0
	for n, want := range map[int]uint64{9: 9 * sixteenth, 10: 2 * sixteenth, 11: 3 * sixteenth, 12: 4 * sixteenth} { // of nine sixteenths eight are taken, and one is given
		who := upTo(0, n)
		y := wantAttester(t, fmt.Sprint("the first ones: ", n), x, doubleOf(who, who), nil, who...)
		if y.Balances[9] != want {
			t.Errorf("%d are slashed: the proposer has %d; want %d", n, y.Balances[9], want)
		}
	}
	y := wantAttester(t, "the last ones", x, doubleOf(upTo(7, 5), upTo(7, 5)), nil, upTo(7, 5)...)
	if y.Balances[9] != 3*sixteenth { // of two sixteenths nothing is left
		t.Errorf("the proposer has %d", y.Balances[9])
	}
}

// TestAttesterWhoCanBeSlashed: those alone, and somebody has to be left.
func TestAttesterWhoCanBeSlashed(t *testing.T) {
	var validators []api.Validator
	var can []uint64
	for at, k := range kinds() {
		v, ok := k.of, k.can
		x := withValidators(103, append(members(3, full), v)...)
		s := doubleOf([]uint64{3}, []uint64{3})
		if ok {
			wantAttester(t, fmt.Sprint(v), x, s, nil, 3)
			wantAttester(t, fmt.Sprint("with another one, ", v), x, doubleOf([]uint64{1, 3}, []uint64{0, 1, 3}), nil, 1, 3)
		} else {
			wantNoAttester(t, fmt.Sprint(v), x, s, nil, api.BadSlashed, askedOfAttests(x, s)...)
			wantAttester(t, fmt.Sprint("with another one, ", v), x, doubleOf([]uint64{1, 3}, []uint64{0, 1, 3}), nil, 1)
		}
		if at%9 == 0 && len(validators) < 50 { // some of all
			if ok {
				can = append(can, uint64(len(validators)))
			}
			validators = append(validators, v)
		}
	}
	all := withValidators(103, append(validators, members(2, full)...)...)
	can = append(can, 51)
	y := wantAttester(t, "many kinds", all, doubleOf(upTo(0, 52), append(upTo(0, 50), 51)), nil, can...)
	for i, v := range y.Validators {
		if touched := v != all.Validators[i]; touched && !slices.Contains(can, uint64(i)) {
			t.Errorf("%d was touched", i)
		}
	}
}

// TestAttesterTwice: who was slashed isn't again; others may be, by the same two.
func TestAttesterTwice(t *testing.T) {
	x := withValidators(103, members(9, full)...)
	s := doubleOf(upTo(0, 5), upTo(2, 6))
	y := wantAttester(t, "once", x, s, nil, 2, 3, 4)
	wantNoAttester(t, "twice", y, s, nil, api.BadSlashed, askedOfAttests(y, s)...)
	s = doubleOf(upTo(0, 6), upTo(2, 6))
	wantAttester(t, "one more is in both", y, s, nil, 5)
}

// dataFault is what may be wrong with a state, with two attestations for it, or with their signatures.
type dataFault struct {
	want    api.Errno
	ofState func(x *api.State)
	ofBoth  func(s *api.AttesterSlashing)
	bad     int // the question that is bad, from 1 on
	asked   int // so many questions, if this one is told
}

// dataFaults in the order of the promise. The lists that are wrong in several ways at once are so in each way.
func dataFaults() []dataFault {
	return []dataFault{
		{want: api.ErrArg, ofState: func(x *api.State) { x.Balances = append(x.Balances, 1) }},
		{want: api.ErrLong, ofBoth: func(s *api.AttesterSlashing) { s.Two.Who = append(s.Two.Who, upTo(50, 61)...) }},
		{want: api.BadSame, ofBoth: func(s *api.AttesterSlashing) { s.Two.Data = s.One.Data }},
		{want: api.BadList, ofBoth: func(s *api.AttesterSlashing) { s.One.Who = append([]uint64{s.One.Who[0]}, s.One.Who...) }},
		{want: api.BadWho, ofBoth: func(s *api.AttesterSlashing) { s.One.Who = append(s.One.Who, 100) }},
		{want: api.BadSig, bad: 1, asked: 1},
		{want: api.BadList, asked: 1, ofBoth: func(s *api.AttesterSlashing) { s.Two.Who = append([]uint64{s.Two.Who[0]}, s.Two.Who...) }},
		{want: api.BadWho, asked: 1, ofBoth: func(s *api.AttesterSlashing) { s.Two.Who = append(s.Two.Who, 1000) }},
		{want: api.BadSig, bad: 2, asked: 2},
		{want: api.BadSlashed, asked: 2, ofState: func(x *api.State) {
			for i := range x.Validators {
				x.Validators[i].Slashed = true
			}
		}},
		{want: api.ErrNone, asked: 2, ofState: func(x *api.State) {
			for i := range x.Validators {
				x.Validators[i].Exit = x.Slot / 4
			}
		}},
		{want: api.ErrOver, asked: 2, ofState: func(x *api.State) { x.Slashings[0] = most - 30*gwei }},
	}
}

// TestAttesterRefusals: each by itself, two at once, and all others that there are together: the first one is answered, and what was asked till then.
func TestAttesterRefusals(t *testing.T) {
	all := dataFaults()
	for which := range 1 << len(all) {
		x, s := withValidators(103, members(16, full)...), doubleOf([]uint64{3, 5, 7}, []uint64{4, 5, 7, 9})
		what, first := "wrong:", -1
		for i, f := range all {
			if which>>i&1 == 0 {
				continue
			}
			if what += fmt.Sprintf(" %d (%d)", i, f.want); first < 0 {
				first = i
			}
			if f.ofState != nil {
				f.ofState(&x)
			}
			if f.ofBoth != nil {
				f.ofBoth(&s)
			}
		}
		if first < 0 {
			wantAttester(t, "nothing wrong", x, s, nil, 5, 7)
			continue
		}
		var asked []api.Root // as far as all are there
		for _, a := range []api.Indexed{s.One, s.Two} {
			if slices.Max(a.Who) >= 16 {
				break
			}
			asked = append(asked, askedOfAttest(x, a))
		}
		var bad []api.Root
		for i, f := range all {
			if which>>i&1 == 1 && f.bad > 0 && f.bad <= len(asked) {
				bad = append(bad, asked[f.bad-1])
			}
		}
		wantNoAttester(t, what, x, s, bad, all[first].want, asked[:all[first].asked]...)
	}
}

// TestAttesterOfOneField: Datas that differ in one field alone, by one bit. Where that is the Target.Epoch, nothing lies around anything.
func TestAttesterOfOneField(t *testing.T) {
	x := withValidators(103, members(16, full)...)
	same := func() api.AttesterSlashing {
		s := doubleOf([]uint64{3, 5}, []uint64{5, 7})
		s.Two.Data = s.One.Data
		return s
	}
	wantNoAttester(t, "the same", x, same(), nil, api.BadSame)
	for at := range 32 {
		for what, field := range map[string]func(d *api.Data) *api.Root{
			"Block": func(d *api.Data) *api.Root { return &d.Block }, "Source.Root": func(d *api.Data) *api.Root { return &d.Source.Root }, "Target.Root": func(d *api.Data) *api.Root { return &d.Target.Root },
		} {
			for side := range 2 {
				s := same()
				field([]*api.Data{&s.One.Data, &s.Two.Data}[side])[at] ^= 1 << (at % 8)
				wantAttester(t, fmt.Sprintf("%s at %d", what, at), x, s, nil, 5)
				s.One.Data.Target.Epoch++
				wantNoAttester(t, fmt.Sprintf("%s at %d, and another target", what, at), x, s, nil, api.BadSame)
			}
		}
	}
	for bit := range 64 {
		for what, field := range map[string]func(d *api.Data) *uint64{
			"Slot": func(d *api.Data) *uint64 { return &d.Slot }, "Index": func(d *api.Data) *uint64 { return &d.Index }, "Source.Epoch": func(d *api.Data) *uint64 { return &d.Source.Epoch },
		} {
			for side := range 2 {
				s := same()
				*field([]*api.Data{&s.One.Data, &s.Two.Data}[side]) ^= 1 << bit
				wantAttester(t, fmt.Sprintf("%s, bit %d", what, bit), x, s, nil, 5)
			}
		}
		for side := range 2 {
			s := same()
			[]*api.Data{&s.One.Data, &s.Two.Data}[side].Target.Epoch ^= 1 << bit
			wantNoAttester(t, fmt.Sprint("Target.Epoch, bit ", bit), x, s, nil, api.BadSame)
		}
	}
	s := same()
	s.Two.Who, s.Two.Sig = []uint64{5, 6, 7}, sigOf(77)
	wantNoAttester(t, "others who attest the same, with another signature", x, s, nil, api.BadSame)
}

// TestAttesterAround: all sources and targets of some epochs, whichever is the first one.
func TestAttesterAround(t *testing.T) {
	x := withValidators(103, members(16, full)...)
	epochs := []uint64{0, 1, 2, 9, 1 << 41, top}
	taken := 0
	for _, a := range epochs {
		for _, b := range epochs {
			for _, c := range epochs {
				for _, d := range epochs {
					s := doubleOf([]uint64{3, 5}, []uint64{5, 7})
					s.One.Data, s.Two.Data = dataOf(a, b), dataOf(c, d)
					what := fmt.Sprintf("%d to %d and %d to %d", a, b, c, d)
					if b == d && a != c || a < c && d < b {
						wantAttester(t, what, x, s, nil, 5)
						taken++
						continue
					}
					wantNoAttester(t, what, x, s, nil, api.BadSame)
				}
			}
		}
	}
	if taken != 15*15+6*30 {
		t.Errorf("%d pairs clash", taken)
	}
	s := doubleOf([]uint64{5}, []uint64{5})
	s.One.Data, s.Two.Data = dataOf(20, 24), dataOf(21, 23)
	wantAttester(t, "the first one lies around the second one", x, s, nil, 5)
	s.One, s.Two = s.Two, s.One
	wantNoAttester(t, "the second one lies around the first one", x, s, nil, api.BadSame)
	s.One.Data, s.Two.Data = dataOf(20, 24), dataOf(20, 23)
	wantNoAttester(t, "one source", x, s, nil, api.BadSame)
	s.One.Data, s.Two.Data = dataOf(20, 24), dataOf(21, 25)
	wantNoAttester(t, "one a bit later", x, s, nil, api.BadSame)
}

// TestAttesterLists that may not be, of the first one and of the second one.
func TestAttesterLists(t *testing.T) {
	x := withValidators(103, members(80, full)...)
	good := []uint64{5, 7}
	for what, who := range map[string][]uint64{
		"nil": nil, "nobody": {}, "one twice": {5, 5}, "one twice at the end": {3, 5, 7, 7}, "one twice ahead": {3, 3, 5}, "falling": {7, 5}, "falling at the end": {1, 2, 3, 5, 4},
		"falling ahead": {5, 1, 7, 8}, "one again later": {5, 7, 5}, "64 the same": slices.Repeat([]uint64{5}, 64), "64, the last one twice": append(upTo(0, 63), 62),
		"none there, twice": {100, 100}, "falling, none there": {100, 5}, "wrapped round": {5, top, 0},
	} {
		s := doubleOf(who, good)
		wantNoAttester(t, what+", the first", x, s, nil, api.BadList)
		wantNoAttester(t, what+", both", x, doubleOf(who, who), nil, api.BadList)
		s = doubleOf(good, who)
		q := askedOfAttest(x, s.One)
		wantNoAttester(t, what+", the second", x, s, nil, api.BadList, q)
		wantNoAttester(t, what+", the second, the first is bad", x, s, []api.Root{q}, api.BadSig, q)
		s.Two.Data = s.One.Data
		wantNoAttester(t, what+", the second, the same", x, s, nil, api.BadSame)
	}
	for _, no := range append(none(80), 100) {
		for what, who := range map[string][]uint64{"alone": {no}, "behind others": {5, 7, no}, "behind 63": append(upTo(0, 63), no)} {
			what = fmt.Sprintf("%d %s", no, what)
			s := doubleOf(who, good)
			wantNoAttester(t, what+", the first", x, s, nil, api.BadWho)
			s = doubleOf(good, who)
			q := askedOfAttest(x, s.One)
			wantNoAttester(t, what+", the second", x, s, nil, api.BadWho, q)
			wantNoAttester(t, what+", the second, the first is bad", x, s, []api.Root{q}, api.BadSig, q)
			wantNoAttester(t, what+", the first, the second is empty", x, doubleOf(who, nil), nil, api.BadWho)
			wantNoAttester(t, what+", the second, the first is empty", x, doubleOf(nil, who), nil, api.BadList)
			if no < top && len(who) < 64 {
				wantNoAttester(t, what+", and one more", x, doubleOf(append(who, no+1), good), nil, api.BadWho)
			}
		}
	}
	wantNoAttester(t, "nobody there", withValidators(103), doubleOf([]uint64{0}, []uint64{0}), nil, api.BadWho)
	wantNoAttester(t, "the zero state", api.State{}, api.AttesterSlashing{}, nil, api.BadSame)
	wantNoAttester(t, "the zero state, two that clash", api.State{}, doubleOf(nil, nil), nil, api.BadList)
}

// TestAttesterLongLists: 64 may be, 65 not, whatever else is wrong.
func TestAttesterLongLists(t *testing.T) {
	x := withValidators(103, members(80, full)...)
	for n := 62; n <= 67; n++ {
		for m := 62; m <= 67; m++ {
			s, what := doubleOf(upTo(0, n), upTo(10, m)), fmt.Sprintf("%d and %d", n, m)
			if n <= 64 && m <= 64 {
				wantAttester(t, what, x, s, nil, upTo(10, n-10)...)
				continue
			}
			wantNoAttester(t, what, x, s, nil, api.ErrLong)
			s.Two.Data = s.One.Data
			wantNoAttester(t, what+", the same", x, s, nil, api.ErrLong)
			s.One.Who = slices.Repeat([]uint64{1000}, n)
			wantNoAttester(t, what+", the same, and nothing right in it", x, s, nil, api.ErrLong)
		}
	}
	for _, who := range [][]uint64{nil, {5}, {5, 5}, {1000}} {
		wantNoAttester(t, "the second is too long", x, doubleOf(who, upTo(0, 65)), nil, api.ErrLong)
		wantNoAttester(t, "the first is too long", x, doubleOf(upTo(0, 65), who), nil, api.ErrLong)
		wantNoAttester(t, "the first is much too long", x, doubleOf(make([]uint64, 100000), who), nil, api.ErrLong)
	}
}

// TestAttesterBad: the first question, the second one, both, at each place among others.
func TestAttesterBad(t *testing.T) {
	x, s := withValidators(103, members(16, full)...), doubleOf([]uint64{3, 5, 7}, []uint64{4, 5, 7, 9})
	q := askedOfAttests(x, s)
	for n := range 6 {
		for at := range n + 1 {
			others := rootsOf("question", n)
			wantNoAttester(t, "the first one", x, s, slices.Insert(slices.Clone(others), at, q[0]), api.BadSig, q[0])
			wantNoAttester(t, "the second one", x, s, slices.Insert(slices.Clone(others), at, q[1]), api.BadSig, q...)
			wantNoAttester(t, "both", x, s, slices.Insert(slices.Clone(others), at, q[1], q[0]), api.BadSig, q[0])
		}
		wantAttester(t, fmt.Sprint("others alone: ", n), x, s, rootsOf("question", n), 5, 7)
	}
	for at := range 32 {
		near := slices.Clone(q)
		near[0][at] ^= 1
		near[1][at] ^= 128
		wantAttester(t, fmt.Sprint("nearly bad, at ", at), x, s, near, 5, 7)
	}
	wantAttester(t, "an empty list", x, s, []api.Root{}, 5, 7)
	wantAttester(t, "zeros are bad", x, s, []api.Root{{}}, 5, 7)
	turned := api.AttesterSlashing{One: s.Two, Two: s.One}
	wantNoAttester(t, "the other way round", x, turned, q[:1], api.BadSig, q[1], q[0])
	wantNoAttester(t, "the other way round, the first one", x, turned, q[1:], api.BadSig, q[1])
	apart := doubleOf([]uint64{3}, []uint64{4})
	asked := askedOfAttests(x, apart)
	wantNoAttester(t, "nobody is in both, the second is bad", x, apart, asked[1:], api.BadSig, asked...)
}

// TestAttesterNotAsked: questions that are bad, but are others.
func TestAttesterNotAsked(t *testing.T) {
	for _, target := range []uint64{9, 10, 24} {
		x, s := withValidators(103, members(16, full)...), doubleOf([]uint64{3, 5, 7}, []uint64{4, 5, 7, 9})
		s.One.Data.Target.Epoch, s.Two.Data.Target.Epoch = target, target
		var bad []api.Root
		for k, a := range []api.Indexed{s.One, s.Two} {
			var keys []api.Key
			for _, i := range a.Who {
				keys = append(keys, x.Validators[i].Key)
			}
			root, domain := plainDataRoot(a.Data), plainDomain(x, 1, target)
			backward := slices.Clone(keys)
			slices.Reverse(backward)
			for _, others := range [][]api.Key{nil, keys[:1], keys[1:], keys[:2], backward, append(slices.Clone(keys), keys[0]), x.Sync.Keys[:]} {
				bad = append(bad, plainQuestion(others, root, domain, a.Sig))
			}
			for _, key := range keys {
				bad = append(bad, plainQuestion([]api.Key{key}, root, domain, a.Sig))
			}
			for _, kind := range []byte{0, 2, 3, 4, 7} {
				bad = append(bad, plainQuestion(keys, root, plainDomain(x, kind, target), a.Sig))
			}
			other := x
			other.Fork.Epoch = map[uint64]uint64{9: 9, 10: 11, 24: 25}[target]
			bad = append(bad,
				plainQuestion(keys, root, plainDomain(other, 1, target), a.Sig), // of the other version
				plainQuestion(keys, root, domain, sigOf(2-k)),                   // of the other signature
				plainQuestion(keys, domain, root, a.Sig), root, domain, plainTwo(root, domain))
		}
		wantAttester(t, fmt.Sprint("questions that aren't asked, target ", target), x, s, bad, 5, 7)
		q := askedOfAttests(x, s)
		wantNoAttester(t, fmt.Sprint("the second one behind them, target ", target), x, s, append(bad, q[1]), api.BadSig, q...)
	}
}

// TestAttesterDomain is by the target's epoch, of each of both; neither the source's nor the slot's counts.
func TestAttesterDomain(t *testing.T) {
	x := withValidators(103, members(16, full)...)
	for _, fork := range []uint64{0, 8, 9, 10, 11, 12, 13, 25, 26, top} {
		x.Fork.Epoch = fork
		s := doubleOf([]uint64{5}, []uint64{5})
		s.One.Data, s.Two.Data = dataOf(7, 12), dataOf(8, 9)
		s.One.Data.Slot, s.Two.Data.Slot = 0, 400
		wantAttester(t, fmt.Sprint("a fork of epoch ", fork), x, s, nil, 5)
		s.One.Data.Target.Epoch, s.Two.Data.Target.Epoch = top, top
		wantAttester(t, fmt.Sprint("the last target, a fork of epoch ", fork), x, s, nil, 5)
	}
}

// TestAttesterOfTheKeys: each byte of each of them counts.
func TestAttesterOfTheKeys(t *testing.T) {
	s := doubleOf([]uint64{3, 5, 7}, []uint64{4, 5, 7, 9})
	before := askedOfAttests(withValidators(103, members(16, full)...), s)
	for at := range 48 {
		for _, i := range []int{3, 4, 5, 7, 9} {
			x := withValidators(103, members(16, full)...)
			x.Validators[i].Key[at] ^= 4
			switch i {
			case 3: // in the first one alone
				wantNoAttester(t, "the second is as it was", x, s, before, api.BadSig, askedOfAttest(x, s.One), before[1])
			case 4, 9: // in the second one alone
				wantNoAttester(t, "the first is as it was", x, s, before, api.BadSig, before[0])
			default:
				wantAttester(t, fmt.Sprintf("the key of %d at %d", i, at), x, s, before, 5, 7)
			}
		}
	}
}

func TestAttesterWithoutActives(t *testing.T) {
	for k, x := range withoutActives(t) {
		var can, cannot []uint64
		for i := range x.Validators {
			if plainCan(x, uint64(i)) {
				can = append(can, uint64(i))
			} else {
				cannot = append(cannot, uint64(i))
			}
		}
		what := fmt.Sprint("state ", k)
		s := doubleOf(upTo(0, len(x.Validators)), upTo(0, len(x.Validators)))
		q := askedOfAttests(x, s)
		wantNoAttester(t, what, x, s, nil, api.ErrNone, q...)
		wantNoAttester(t, what+", the second is bad", x, s, q[1:], api.BadSig, q...)
		if cannot != nil { // then nobody is to be slashed, and no proposer is needed
			s = doubleOf(cannot, cannot)
			wantNoAttester(t, what+", none can be slashed", x, s, nil, api.BadSlashed, askedOfAttests(x, s)...)
		}
		s = doubleOf(can, can)
		x.Slashings[0] = most - 28*gwei
		wantNoAttester(t, what+", slashings that are too great behind it", x, s, nil, api.ErrNone, askedOfAttests(x, s)...)
	}
}

// TestAttesterAtTheBound: what counts is the state behind all of it.
func TestAttesterAtTheBound(t *testing.T) {
	who := []uint64{0, 1, 2}
	s := doubleOf(who, who)
	for what, of := range map[string]func(x *api.State, above uint64){
		"slashings": func(x *api.State, above uint64) { x.Slashings = [8]uint64{7: most - 96*gwei + above} },
		"an exit":   func(x *api.State, above uint64) { x.Validators[4].Exit = lastEpoch - 3 + above },
		"balances": func(x *api.State, above uint64) {
			clear(x.Balances)
			x.Balances[3] = most - 3*sixteenth + above
		},
	} {
		x := withValidators(103, members(5, full)...)
		for mix := 0; ; mix++ { // the proposer has nothing to pay
			if proposer, _ := plainProposer(x); proposer == 3 {
				break
			}
			x.Mixes[7] = rootOf("a mix for the fourth", mix)
		}
		of(&x, 0)
		wantAttester(t, what+" just right", x, s, nil, who...)
		of(&x, 1)
		q := askedOfAttests(x, s)
		wantNoAttester(t, what+" one above", x, s, nil, api.ErrOver, q...)
		wantNoAttester(t, what+" one above, and bad", x, s, q[1:], api.BadSig, q...)
	}
}

// TestAttesterAboveInBetween: the balances together are too great behind the first one, but no more behind the second one, who pays; so it is taken. The other way round likewise.
func TestAttesterAboveInBetween(t *testing.T) {
	for _, poor := range []uint64{0, 1} {
		x := withValidators(103, members(5, full)...)
		clear(x.Balances)
		x.Balances[1-poor] = gwei
		x.Balances[4] = most - gwei
		alone := doubleOf([]uint64{poor}, []uint64{poor})
		wantNoAttester(t, "the poor one alone", x, alone, nil, api.ErrOver, askedOfAttests(x, alone)...)
		wantNoSlash(t, "the poor one alone", x, poor, api.ErrOver)
		wantAttester(t, fmt.Sprint("both, the poor one is ", poor), x, doubleOf([]uint64{0, 1}, []uint64{0, 1}), nil, 0, 1)
	}
}

func TestAttesterOfStatesThatArentRight(t *testing.T) {
	right := withValidators(103, members(16, full)...)
	same := doubleOf([]uint64{5}, []uint64{5})
	same.Two.Data = same.One.Data
	for what, x := range notRight(t, right) {
		for _, s := range []api.AttesterSlashing{
			doubleOf([]uint64{5}, []uint64{5}), doubleOf(nil, nil), doubleOf([]uint64{5}, nil), doubleOf(upTo(0, 65), upTo(0, 65)), doubleOf([]uint64{5, 5}, []uint64{5}),
			doubleOf([]uint64{100}, []uint64{100}), doubleOf([]uint64{1}, []uint64{2}), {}, same,
		} {
			wantNoAttester(t, what, x, s, nil, api.ErrArg)
		}
		s := doubleOf([]uint64{5}, []uint64{5})
		wantNoAttester(t, what+", and bad", x, s, askedOfAttests(right, s), api.ErrArg)
	}
}
