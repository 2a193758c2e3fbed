package slash_test

import (
	"fmt"
	"slices"
	"testing"

	"pharos/api"
)

// P18.2

func TestProposerOfSlotsAndNumbers(t *testing.T) {
	for _, n := range []int{1, 2, 3, 16, 40, 300} {
		for k, slot := range someSlots() {
			x := withValidators(slot, members(n, uint64(17+slot%16))...)
			who := uint64(k % n)
			y := wantProposer(t, fmt.Sprintf("slot %d, %d of %d", slot, who, n), x, headersOf(slot, who), nil)
			if !slices.Equal(slashedOf(y), []uint64{who}) {
				t.Errorf("slot %d, %d of %d: slashed are %d", slot, who, n, slashedOf(y))
			}
		}
	}
}

// TestProposerOfEachSlot of headers: also of times long ago and of those that never come; whose turn it was isn't asked.
func TestProposerOfEachSlot(t *testing.T) {
	x := withValidators(103, members(16, full)...)
	seen := map[api.Root]uint64{}
	for _, slot := range []uint64{0, 1, 3, 4, 38, 39, 40, 41, 102, 103, 104, 1 << 40, 1 << 63, top - 3, top} {
		s := headersOf(slot, 5)
		wantProposer(t, fmt.Sprint("headers of slot ", slot), x, s, nil)
		seen[plainDomain(x, 0, slot/4)]++
	}
	if len(seen) != 2 {
		t.Errorf("%d domains; want that ahead of the fork and that behind it", len(seen))
	}
	for _, fork := range []uint64{0, 1, 24, 25, 26, 1 << 62, top} {
		x.Fork.Epoch = fork
		for _, slot := range []uint64{0, 3, 4, 99, 100, 103, 104, 1<<64 - 1} {
			wantProposer(t, fmt.Sprintf("a fork of epoch %d, slot %d", fork, slot), x, headersOf(slot, 5), nil)
		}
	}
}

// headerFault is what may be wrong with a state, with two headers for it, or with their signatures.
type headerFault struct {
	want    api.Errno
	ofState func(x *api.State)
	ofBoth  func(s *api.ProposerSlashing)
	bad     int // the question that is bad, from 1 on
	asked   int // so many questions, if this one is told
}

// headerFaults in the order of the promise. Each of them applies whatever the others are, but for those that ask for headers which differ, and which are the same.
func headerFaults() []headerFault {
	return []headerFault{
		{want: api.ErrArg, ofState: func(x *api.State) { x.Balances = append(x.Balances, 1) }},
		{want: api.BadSlot, ofBoth: func(s *api.ProposerSlashing) { s.Two.Header.Slot++ }},
		{want: api.BadWho, ofBoth: func(s *api.ProposerSlashing) { s.One.Header.Proposer++ }},
		{want: api.BadSame, ofBoth: func(s *api.ProposerSlashing) { s.Two.Header.Body = s.One.Header.Body }},
		{want: api.BadWho, ofBoth: func(s *api.ProposerSlashing) { s.One.Header.Proposer += 16; s.Two.Header.Proposer += 16 }},
		{want: api.BadSlashed, ofState: func(x *api.State) {
			for i := range x.Validators {
				x.Validators[i].Slashed = true
			}
		}},
		{want: api.BadSig, bad: 1, asked: 1},
		{want: api.BadSig, bad: 2, asked: 2},
		{want: api.ErrNone, asked: 2, ofState: func(x *api.State) {
			for i := range x.Validators {
				x.Validators[i].Exit = x.Slot / 4
			}
		}},
		{want: api.ErrOver, asked: 2, ofState: func(x *api.State) { x.Slashings[0] = most - 30*gwei }},
	}
}

// TestProposerRefusals: each by itself, two at once, and all others that there are together: the first one is answered, and what was asked till then.
func TestProposerRefusals(t *testing.T) {
	all := headerFaults()
	for which := range 1 << len(all) {
		x, s := withValidators(103, members(16, full)...), headersOf(103, 5)
		what, first := "wrong:", -1
		for i, f := range all {
			if which>>i&1 == 0 {
				continue
			}
			if what += fmt.Sprintf(" %d (%d)", i, f.want); first < 0 {
				first = i
			}
			if f.ofState != nil {
				f.ofState(&x)
			}
			if f.ofBoth != nil {
				f.ofBoth(&s)
			}
		}
		if first < 0 {
			wantProposer(t, "nothing wrong", x, s, nil)
			continue
		}
		var bad, asked []api.Root
		if s.One.Header.Proposer < 16 && s.Two.Header.Proposer < 16 {
			asked = askedOfHeaders(x, s)
		}
		for i, f := range all {
			if which>>i&1 == 1 && f.bad > 0 && asked != nil {
				bad = append(bad, asked[f.bad-1])
			}
		}
		wantNoProposer(t, what, x, s, bad, all[first].want, asked[:all[first].asked]...)
	}
}

// TestProposerOfOneField: headers that differ in one field alone, by one bit. Signatures are no part of them.
func TestProposerOfOneField(t *testing.T) {
	x := withValidators(103, members(16, full)...)
	for at := range 32 {
		for what, field := range map[string]func(h *api.Header) *api.Root{
			"Parent": func(h *api.Header) *api.Root { return &h.Parent }, "State": func(h *api.Header) *api.Root { return &h.State }, "Body": func(h *api.Header) *api.Root { return &h.Body },
		} {
			for _, side := range []int{0, 1} {
				s := headersOf(103, 5)
				s.Two.Header = s.One.Header
				wantNoProposer(t, "the same", x, s, nil, api.BadSame)
				h := []*api.Header{&s.One.Header, &s.Two.Header}[side]
				field(h)[at] ^= 1 << (at % 8)
				wantProposer(t, fmt.Sprintf("%s at %d", what, at), x, s, nil)
			}
		}
	}
	for bit := range 64 {
		s := headersOf(103, 5)
		s.Two.Header = s.One.Header
		s.Two.Header.Slot ^= 1 << bit
		wantNoProposer(t, fmt.Sprint("Slot, bit ", bit), x, s, nil, api.BadSlot)
		s.Two.Header.Slot = s.One.Header.Slot
		s.One.Header.Proposer ^= 1 << bit
		wantNoProposer(t, fmt.Sprint("Proposer, bit ", bit), x, s, nil, api.BadWho)
		s.One.Header.Slot ^= 1 << bit
		wantNoProposer(t, fmt.Sprint("Slot and Proposer, bit ", bit), x, s, nil, api.BadSlot)
	}
	s := headersOf(103, 5)
	s.Two.Header = s.One.Header
	for at := range 96 {
		s.Two.Sig = s.One.Sig
		s.Two.Sig[at]++
		wantNoProposer(t, fmt.Sprint("the signatures alone, at ", at), x, s, nil, api.BadSame)
	}
	s = headersOf(103, 5)
	s.Two.Sig = s.One.Sig
	wantProposer(t, "one signature for both", x, s, nil)
	wantProposer(t, "no signatures", x, api.ProposerSlashing{One: api.SignedHeader{Header: s.One.Header}, Two: api.SignedHeader{Header: s.Two.Header}}, nil)
}

func TestProposerOfNone(t *testing.T) {
	for _, n := range []int{1, 2, 16} {
		x := withValidators(103, members(n, full)...)
		for _, who := range none(n) {
			wantNoProposer(t, fmt.Sprintf("%d of %d", who, n), x, headersOf(103, who), nil, api.BadWho)
			s := headersOf(103, who)
			s.Two.Header = s.One.Header
			wantNoProposer(t, fmt.Sprintf("%d of %d, the same", who, n), x, s, nil, api.BadSame)
			s.Two.Header.Proposer = 0
			wantNoProposer(t, fmt.Sprintf("%d of %d and 0", who, n), x, s, nil, api.BadWho)
		}
	}
	wantNoProposer(t, "the zero state, the same", api.State{}, api.ProposerSlashing{}, nil, api.BadSame)
	wantNoProposer(t, "the zero state", api.State{}, headersOf(0, 0), nil, api.BadWho)
}

// kind of a validator at epoch 25, and whether it can be slashed.
type kind struct {
	of  api.Validator
	can bool
}

func kinds() []kind {
	var all []kind
	for _, withdrawable := range []uint64{0, 24, 25, 26, 27, 33, 1000, far} {
		for _, activation := range []uint64{0, 24, 25, 26, far} {
			for _, exit := range []uint64{0, 24, 25, 26, 28, far} {
				for _, slashed := range []bool{false, true} {
					v := member(full, activation, exit)
					v.Withdrawable, v.Slashed = withdrawable, slashed
					all = append(all, kind{v, !slashed && activation < 26 && withdrawable > 25})
				}
			}
		}
	}
	return all
}

// TestProposerWhoCanBeSlashed: also one that has left, till it may be withdrawn.
func TestProposerWhoCanBeSlashed(t *testing.T) {
	for _, k := range kinds() {
		v, can := k.of, k.can
		x := withValidators(103, append(members(5, full), v)...)
		s := headersOf(103, 5)
		if can {
			wantProposer(t, fmt.Sprint(v), x, s, nil)
		} else {
			wantNoProposer(t, fmt.Sprint(v), x, s, askedOfHeaders(x, s), api.BadSlashed)
		}
		s = headersOf(1, 5) // the state's epoch counts, not the headers'
		if can {
			wantProposer(t, fmt.Sprint("headers of long ago, ", v), x, s, nil)
		} else {
			wantNoProposer(t, fmt.Sprint("headers of long ago, ", v), x, s, nil, api.BadSlashed)
		}
	}
}

// TestProposerTwice: who was slashed isn't again, for whichever headers.
func TestProposerTwice(t *testing.T) {
	x := withValidators(103, members(5, full)...)
	x = wantProposer(t, "once", x, headersOf(103, 2), nil)
	wantNoProposer(t, "twice", x, headersOf(103, 2), nil, api.BadSlashed)
	wantNoProposer(t, "twice, for others", x, headersOf(99, 2), nil, api.BadSlashed)
	wantProposer(t, "another one", x, headersOf(103, 3), nil)
}

// TestProposerBad: the first question, the second one, both, at each place among others.
func TestProposerBad(t *testing.T) {
	x, s := withValidators(103, members(16, full)...), headersOf(103, 5)
	q := askedOfHeaders(x, s)
	for n := range 6 {
		for at := range n + 1 {
			others := rootsOf("question", n)
			wantNoProposer(t, "the first one", x, s, slices.Insert(slices.Clone(others), at, q[0]), api.BadSig, q[0])
			wantNoProposer(t, "the second one", x, s, slices.Insert(slices.Clone(others), at, q[1]), api.BadSig, q...)
			wantNoProposer(t, "both", x, s, slices.Insert(slices.Clone(others), at, q[1], q[0]), api.BadSig, q[0])
		}
		wantProposer(t, fmt.Sprint("others alone: ", n), x, s, rootsOf("question", n))
	}
	for at := range 32 {
		near := slices.Clone(q)
		near[0][at] ^= 1
		near[1][at] ^= 128
		wantProposer(t, fmt.Sprint("nearly bad, at ", at), x, s, near)
	}
	wantProposer(t, "an empty list", x, s, []api.Root{})
	wantProposer(t, "zeros are bad", x, s, []api.Root{{}})
	turned := api.ProposerSlashing{One: s.Two, Two: s.One}
	wantNoProposer(t, "the other way round", x, turned, q[:1], api.BadSig, q[1], q[0])
	wantNoProposer(t, "the other way round, the first one", x, turned, q[1:], api.BadSig, q[1])
}

// TestProposerNotAsked: questions that are bad, but are others.
func TestProposerNotAsked(t *testing.T) {
	for _, slot := range []uint64{39, 40, 103} {
		x, s := withValidators(103, members(16, full)...), headersOf(slot, 5)
		var bad []api.Root
		for k, h := range []api.SignedHeader{s.One, s.Two} {
			root, domain, key := plainHeaderRoot(h.Header), plainDomain(x, 0, slot/4), x.Validators[5].Key
			for i, v := range x.Validators {
				if i != 5 {
					bad = append(bad, plainQuestion([]api.Key{v.Key}, root, domain, h.Sig))
				}
			}
			for _, kind := range []byte{1, 2, 3, 4, 7} {
				bad = append(bad, plainQuestion([]api.Key{key}, root, plainDomain(x, kind, slot/4), h.Sig))
			}
			other := x
			other.Fork.Epoch = map[uint64]uint64{39: 9, 40: 11, 103: 26}[slot]
			bad = append(bad,
				plainQuestion([]api.Key{key}, root, plainDomain(other, 0, slot/4), h.Sig), // of the other version
				plainQuestion([]api.Key{key}, root, domain, sigOf(2-k)),                   // of the other signature
				plainQuestion(nil, root, domain, h.Sig), plainQuestion([]api.Key{key, key}, root, domain, h.Sig),
				plainQuestion([]api.Key{key}, domain, root, h.Sig), root, domain, plainTwo(root, domain))
		}
		wantProposer(t, fmt.Sprint("questions that aren't asked, slot ", slot), x, s, bad)
		q := askedOfHeaders(x, s)
		wantNoProposer(t, fmt.Sprint("the second one behind them, slot ", slot), x, s, append(bad, q[1]), api.BadSig, q...)
	}
}

// TestProposerOfTheKey, the genesis root and the versions: each of them counts.
func TestProposerOfTheKey(t *testing.T) {
	s := headersOf(103, 5)
	before := askedOfHeaders(withValidators(103, members(16, full)...), s)
	for at := range 48 {
		for k := range 3 {
			x := withValidators(103, members(16, full)...)
			switch k {
			case 0:
				x.Validators[5].Key[at] ^= 4
			case 1:
				x.GenesisRoot[at%32] ^= 8
			case 2:
				x.Fork.Current[at%4] ^= 16
			}
			wantProposer(t, fmt.Sprintf("changed at %d (%d)", at, k), x, s, before)
		}
	}
}

func TestProposerWithoutActives(t *testing.T) {
	for k, x := range withoutActives(t) {
		seen := 0
		for i := range x.Validators {
			s, what := headersOf(103, uint64(i)), fmt.Sprintf("state %d, %d", k, i)
			if !plainCan(x, uint64(i)) {
				wantNoProposer(t, what, x, s, nil, api.BadSlashed)
				continue
			}
			seen++
			q := askedOfHeaders(x, s)
			wantNoProposer(t, what, x, s, nil, api.ErrNone, q...)
			wantNoProposer(t, what+", the second is bad", x, s, q[1:], api.BadSig, q...)
			y := clone(x)
			y.Slashings[0] = most - 28*gwei
			wantNoProposer(t, what+", slashings that are too great behind it", y, s, nil, api.ErrNone, q...)
		}
		if seen == 0 {
			t.Errorf("state %d: nobody can be slashed", k)
		}
	}
}

// TestProposerAtTheBound: both questions were asked by then.
func TestProposerAtTheBound(t *testing.T) {
	s := headersOf(103, 2)
	for what, of := range map[string]func(x *api.State, above uint64){
		"slashings": func(x *api.State, above uint64) { x.Slashings = [8]uint64{7: most - 32*gwei + above} },
		"an exit":   func(x *api.State, above uint64) { x.Validators[0].Exit = lastEpoch - 2 + above },
		"balances": func(x *api.State, above uint64) {
			clear(x.Balances)
			x.Balances[4] = most - sixteenth + above
		},
	} {
		x := withValidators(103, members(5, full)...)
		of(&x, 0)
		wantProposer(t, what+" just right", x, s, nil)
		of(&x, 1)
		q := askedOfHeaders(x, s)
		wantNoProposer(t, what+" one above", x, s, nil, api.ErrOver, q...)
		wantNoProposer(t, what+" one above, and bad", x, s, q[1:], api.BadSig, q...)
	}
}

func TestProposerOfStatesThatArentRight(t *testing.T) {
	right := withValidators(103, members(16, full)...)
	same := headersOf(103, 5)
	same.Two = same.One
	slots, others := headersOf(103, 5), headersOf(103, 5)
	slots.One.Header.Slot, others.One.Header.Proposer = 9, 6
	for what, x := range notRight(t, right) {
		for _, s := range []api.ProposerSlashing{headersOf(103, 5), headersOf(103, 0), headersOf(103, 16), headersOf(103, top), {}, same, slots, others} {
			wantNoProposer(t, what, x, s, nil, api.ErrArg)
		}
		wantNoProposer(t, what+", and bad", x, headersOf(103, 5), askedOfHeaders(right, headersOf(103, 5)), api.ErrArg)
	}
}
