package live_test

import (
	"encoding/binary"
	"fmt"
	"math/big"
	"reflect"
	"slices"
	"testing"

	"pharos/api"
	"pharos/live"
	"pharos/state"
)

// A plain second reading of a live state: a state that is changed as the calls say, and hashes that are counted place by place.

const far = 1<<64 - 1

// States.

// room for so many, and some spare room, so that what writes there is seen.
func room[T any](n int) []T { return make([]T, n, n+3) }

// root of bytes from v on: neighbours differ.
func root(v int) api.Root {
	var r api.Root
	for i := range r {
		r[i] = byte(v + i)
	}
	return r
}

func key(v int) api.Key {
	var k api.Key
	for i := range k {
		k[i] = byte(v * (i + 1))
	}
	return k
}

func eightRoots(v int) [8]api.Root {
	var all [8]api.Root
	for i := range all {
		all[i] = root(v + 40*i)
	}
	return all
}

func committee(v int) api.Committee {
	c := api.Committee{Sum: key(v)}
	for i := range c.Keys {
		c.Keys[i] = key(v + 1 + i)
	}
	return c
}

// member is a validator that may be, another one for each v.
func member(v int) api.Validator {
	return api.Validator{
		Key: key(v), Credentials: root(v), Effective: uint64(v%33) * 1000000000, Slashed: v%3 == 0,
		Eligible: uint64(v), Activation: uint64(v + 1), Exit: far, Withdrawable: far - far*uint64(v%2),
	}
}

// sample is a right state with so many validators, of which no field is zero; another one for each v.
func sample(n, v int) api.State {
	x := api.State{
		Genesis: uint64(v + 1), GenesisRoot: root(v + 2), Slot: uint64(v + 103), Deposits: uint64(v + 4),
		Fork:       api.Fork{Previous: api.Version{1, 2, 3, byte(v)}, Current: api.Version{5, 6, 7, byte(v)}, Epoch: uint64(v + 8)},
		Header:     api.Header{Slot: uint64(v + 5), Proposer: uint64(v + 6), Parent: root(v + 7), State: root(v + 8), Body: root(v + 9)},
		BlockRoots: eightRoots(v + 10), StateRoots: eightRoots(v + 11), Mixes: eightRoots(v + 12),
		Eth1:    api.Eth1{Deposits: root(v + 13), Count: uint64(v + 14), Block: root(v + 15)},
		Bits:    [4]bool{v%2 == 0, v%2 == 1, v%3 == 0, true},
		OldJust: api.Checkpoint{Epoch: 21, Root: root(v + 16)}, Just: api.Checkpoint{Epoch: 22, Root: root(v + 17)}, Final: api.Checkpoint{Epoch: 20, Root: root(v + 18)},
		Sync: committee(v + 19), NextSync: committee(v + 20),
		History: room[api.Root](v%5 + 1), Votes: room[api.Eth1](v%8 + 1),
		Validators: room[api.Validator](n), Balances: room[uint64](n), Previous: room[uint8](n), Current: room[uint8](n), Scores: room[uint64](n),
	}
	for i := range x.Slashings {
		x.Slashings[i] = uint64(v + 20 + i)
	}
	for i := range x.History {
		x.History[i] = root(v + 30 + i)
	}
	for i := range x.Votes {
		x.Votes[i] = api.Eth1{Deposits: root(v + i), Count: uint64(v + 40 + i), Block: root(v + 50 + i)}
	}
	for i := range n {
		x.Validators[i] = member(v + i)
		x.Balances[i], x.Scores[i] = uint64(31000000000+v+i), uint64(v+60+i)
		x.Previous[i], x.Current[i] = uint8(v+1+i), uint8(v+2+3*i)
	}
	return x
}

// counts of validators: none, one, some, as many as fill a chunk of numbers or of flags, and one more.
func counts() []int { return []int{0, 1, 2, 3, 4, 5, 7, 8, 9, 31, 32, 33, 63, 64, 65} }

// lists of a state.
func lists(x *api.State) []reflect.Value {
	var all []reflect.Value
	v := reflect.ValueOf(x).Elem()
	for i := range v.NumField() {
		if v.Field(i).Kind() == reflect.Slice {
			all = append(all, v.Field(i))
		}
	}
	return all
}

// twin is the same state with lists of its own.
func twin(x api.State) api.State {
	for _, l := range lists(&x) {
		own := reflect.MakeSlice(l.Type(), l.Len(), l.Len())
		reflect.Copy(own, l)
		l.Set(own)
	}
	return x
}

// same: nil and an empty list are.
func same(a, b api.State) bool { return reflect.DeepEqual(twin(a), twin(b)) }

// spoil the lists of a state, and their spare room.
func spoil(x *api.State) {
	for _, l := range lists(x) {
		all := l.Slice3(0, l.Cap(), l.Cap())
		for i := range all.Len() {
			switch e := all.Index(i); e.Kind() {
			case reflect.Uint64, reflect.Uint8:
				e.SetUint(^e.Uint() & 0xff)
			case reflect.Array:
				e.Set(reflect.ValueOf(api.Root{0xcc, byte(i)}))
			default:
				e.SetZero()
			}
		}
	}
}

// whole tells a state with the spare room of its lists.
func whole(x *api.State) string {
	s := fmt.Sprint(*x)
	for _, l := range lists(x) {
		s += fmt.Sprint(l.Slice3(0, l.Cap(), l.Cap()))
	}
	return s
}

// rootState of a state that has one.
func rootState(t *testing.T, x api.State) api.Root {
	t.Helper()
	r, err := state.RootState(x)
	if err != api.OK {
		t.Fatalf("RootState: error %d", err)
	}
	return r
}

// Calls.

// call on a live state, and what it makes of a plain one.
type call struct {
	name string
	on   func(l *live.Live) api.Errno
	// change a state that may be changed; an error, if there is no such place.
	change func(x *api.State) api.Errno
}

// at changes a state at a validator that must be there.
func at(i int, change func(x *api.State)) func(x *api.State) api.Errno {
	return func(x *api.State) api.Errno {
		if i < 0 || i >= len(x.Validators) {
			return api.ErrArg
		}
		change(x)
		return api.OK
	}
}

func balance(i int, n uint64) call {
	return call{
		fmt.Sprintf("Balance(%d, %d)", i, n),
		func(l *live.Live) api.Errno { return l.Balance(i, n) },
		at(i, func(x *api.State) { x.Balances[i] = n }),
	}
}

func score(i int, n uint64) call {
	return call{
		fmt.Sprintf("Score(%d, %d)", i, n),
		func(l *live.Live) api.Errno { return l.Score(i, n) },
		at(i, func(x *api.State) { x.Scores[i] = n }),
	}
}

func flags(i int, previous, current uint8) call {
	return call{
		fmt.Sprintf("Flags(%d, %d, %d)", i, previous, current),
		func(l *live.Live) api.Errno { return l.Flags(i, previous, current) },
		at(i, func(x *api.State) { x.Previous[i], x.Current[i] = previous, current }),
	}
}

func validator(i int, v api.Validator) call {
	return call{
		fmt.Sprintf("Validator(%d, %v)", i, v),
		func(l *live.Live) api.Errno { return l.Validator(i, v) },
		at(i, func(x *api.State) { x.Validators[i] = v }),
	}
}

func join(v api.Validator, n uint64) call {
	return call{
		fmt.Sprintf("Join(%v, %d)", v, n),
		func(l *live.Live) api.Errno { return l.Join(v, n) },
		func(x *api.State) api.Errno {
			if len(x.Validators) == 65536 {
				return api.ErrLong
			}
			x.Validators = append(x.Validators, v)
			x.Balances = append(x.Balances, n)
			x.Previous = append(x.Previous, 0)
			x.Current = append(x.Current, 0)
			x.Scores = append(x.Scores, 0)
			return api.OK
		},
	}
}

// rightByHand: the conditions that a call can break; the sum is reckoned exactly.
func rightByHand(x api.State) bool {
	sum := new(big.Int)
	for i, v := range x.Validators {
		if v.Effective%1000000000 != 0 || v.Effective > 32000000000 || x.Scores[i] > 1<<40 {
			return false
		}
		for _, epoch := range []uint64{v.Eligible, v.Activation, v.Exit, v.Withdrawable} {
			if epoch != far && epoch >= 1<<41 {
				return false
			}
		}
		sum.Add(sum, new(big.Int).SetUint64(x.Balances[i]))
	}
	return sum.Cmp(new(big.Int).Lsh(big.NewInt(1), 57)) <= 0
}

// makes: what a call makes of a right state, and its error.
func (c call) makes(x api.State) (api.State, api.Errno) {
	y := twin(x)
	if err := c.change(&y); err != api.OK {
		return x, err
	}
	if !rightByHand(y) {
		return x, api.ErrArg
	}
	return y, api.OK
}

// Hashes.

// treeDepths of Validators, Balances, Scores, Previous and Current.
func treeDepths() [5]int { return [5]int{16, 14, 14, 11, 11} }

// chunk is what a leaf is made of.
type chunk struct {
	v api.Validator
	b [32]byte
}

func chunksOf(b []byte) []chunk {
	var all []chunk
	for len(b) > 0 {
		var c chunk
		b = b[copy(c.b[:], b):]
		all = append(all, c)
	}
	return all
}

func numbersChunks(numbers []uint64) []chunk {
	var b []byte
	for _, n := range numbers {
		b = binary.LittleEndian.AppendUint64(b, n)
	}
	return chunksOf(b)
}

// chunksOfTrees: what the leaves of the five trees are made of.
func chunksOfTrees(x api.State) [5][]chunk {
	var registry []chunk
	for _, v := range x.Validators {
		registry = append(registry, chunk{v: v})
	}
	return [5][]chunk{registry, numbersChunks(x.Balances), numbersChunks(x.Scores), chunksOf(x.Previous), chunksOf(x.Current)}
}

// place in one of the trees: the row 0 is that of the leaves.
type place struct{ tree, row, i int }

// above counts the places above leaves, each once.
func above(leaves map[place]int) int {
	seen := map[place]int{}
	for p := range leaves {
		for p.row < treeDepths()[p.tree] {
			p.row++
			p.i /= 2
			seen[p] = 1
		}
	}
	return len(seen)
}

// twins: a live state beside what it must be.
type twins struct {
	l      *live.Live
	x      api.State
	calls  int           // since the last Root
	marked map[place]int // leaves that were changed since then
	hashes int           // at the last Root
}

// begin with a right state.
func begin(t *testing.T, x api.State) *twins {
	t.Helper()
	l := live.New(x)
	if l == nil {
		t.Fatalf("New of a right state with %d validators is nil", len(x.Validators))
	}
	w := &twins{l: l, x: twin(x), marked: map[place]int{}}
	w.mark(api.State{}, x)
	return w
}

// mark the leaves that are other ones.
func (w *twins) mark(before, after api.State) {
	olds := chunksOfTrees(before)
	for k, news := range chunksOfTrees(after) {
		for i, c := range news {
			if i >= len(olds[k]) || olds[k][i] != c {
				w.marked[place{tree: k, i: i}] = 1
			}
		}
	}
}

// do a call, and hold its error against what it must be; nothing is reckoned ahead of Root.
func (w *twins) do(t *testing.T, c call) api.Errno {
	t.Helper()
	y, want := c.makes(w.x)
	before := w.l.Hashes()
	got := c.on(w.l)
	if got != want {
		t.Fatalf("%d validators, %s: error %d; want %d", len(w.x.Validators), c.name, got, want)
	}
	if w.l.Hashes() != before {
		t.Fatalf("%s took %d hashes ahead of Root", c.name, w.l.Hashes()-before)
	}
	w.mark(w.x, y)
	w.calls++
	w.x = y
	return got
}

// doAll of these, and hold the state, its root and what that took behind each.
func (w *twins) doAll(t *testing.T, calls ...call) {
	t.Helper()
	for _, c := range calls {
		w.do(t, c)
		w.wantState(t, c.name)
		w.ask(t, c.name)
	}
}

func (w *twins) wantState(t *testing.T, what string) {
	t.Helper()
	if !same(w.l.State(), w.x) {
		t.Fatalf("behind %s: the state is another one", what)
	}
}

// ask for the root, and hold it and what it took against what they must be.
func (w *twins) ask(t *testing.T, what string) {
	t.Helper()
	if got, want := w.l.Root(), rootState(t, w.x); got != want {
		t.Fatalf("%d validators, behind %s: Root %x; want %x", len(w.x.Validators), what, got, want)
	}
	if took, want := w.l.Hashes()-w.hashes, above(w.marked); took != want {
		t.Fatalf("%d validators, behind %s: Root took %d hashes; want %d", len(w.x.Validators), what, took, want)
	}
	w.rest()
}

// askAfterCalls alone: no more than 66 hashes a call.
func (w *twins) askAfterCalls(t *testing.T, what string) {
	t.Helper()
	before, calls := w.hashes, w.calls
	w.ask(t, what)
	if took := w.hashes - before; took > 66*calls {
		t.Fatalf("behind %s: %d calls took %d hashes", what, calls, took)
	}
}

// rest: all is reckoned.
func (w *twins) rest() {
	w.hashes = w.l.Hashes()
	w.calls = 0
	clear(w.marked)
}

// put a right state.
func (w *twins) put(t *testing.T, x api.State) {
	t.Helper()
	if err := w.l.Put(x); err != api.OK {
		t.Fatalf("Put of a right state with %d validators where there are %d: error %d", len(x.Validators), len(w.x.Validators), err)
	}
	if w.l.Hashes() < w.hashes {
		t.Fatalf("behind Put of %d validators where there are %d: %d hashes; there were %d", len(x.Validators), len(w.x.Validators), w.l.Hashes(), w.hashes)
	}
	if len(x.Validators) < len(w.x.Validators) {
		clear(w.marked)
		w.mark(api.State{}, x)
	} else {
		w.mark(w.x, x)
	}
	w.x = twin(x)
}

// copied: a copy beside what it must be. What is open at the copy is the copy's to reckon too.
func (w *twins) copied() *twins {
	marked := map[place]int{}
	for p := range w.marked {
		marked[p] = 1
	}
	return &twins{l: w.l.Copy(), x: twin(w.x), calls: w.calls, marked: marked}
}

// wrongPlaces: where there is no validator of so many.
func wrongPlaces(n int) []int {
	return []int{-1, -2, -n - 1, -1 << 62, -1 << 63, n, n + 1, 2*n + 1, 1 << 16, 1 << 31, 1 << 32, 1 << 62, 1<<63 - 1}
}

// somePlaces: where there are some of so many: the first, the last, and those beside the bounds of chunks.
func somePlaces(n int) []int {
	var all []int
	for _, i := range []int{0, 1, 3, 4, 5, 31, 32, 33, 63, 64, n / 2, n - 2, n - 1} {
		if i >= 0 && i < n && !slices.Contains(all, i) {
			all = append(all, i)
		}
	}
	return all
}
