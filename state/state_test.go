package state_test

import (
	"bytes"
	"fmt"
	"math/rand/v2"
	"reflect"
	"runtime"
	"slices"
	"strings"
	"testing"

	"pharos/api"
	"pharos/state"
)

// sample is a state that may be encoded; it needn't be right.
type sample struct {
	name string
	x    api.State
}

// shapes of few elements: each list apart with none, one and some, the others with none or with some, and lengths around those that fill a chunk.
func shapes() []shape {
	all := []shape{each(0), each(1), each(2), each(3), each(8), {1, 2, 3, 4, 5, 6, 7}, {7, 6, 5, 4, 3, 2, 1}}
	for i := range listCount {
		for _, n := range []int{1, 2, 3, 4, 5, 7, 8, 9, 31, 32, 33, 63, 64, 65, 255, 256, 257} {
			if n <= mostElements(i) {
				all = append(all, each(0).with(i, n), each(2).with(i, n))
			}
		}
		all = append(all, each(3).with(i, 0))
	}
	return all
}

func samples() []sample {
	list := []sample{{"zero, nil lists", api.State{}}}
	for _, s := range shapes() {
		list = append(list,
			sample{fmt.Sprint("zeros, lists of ", s), value(all(0), s)},
			sample{fmt.Sprint("255, lists of ", s), value(all(255), s)},
			sample{fmt.Sprint("rising, lists of ", s), value(rising, s)},
		)
	}
	return append(append(list, leafSamples()...), chanceSamples()...)
}

// leafSamples set each leaf apart.
func leafSamples() []sample {
	var all []sample
	x := value(func(int) byte { return 0 }, each(2))
	for i, l := range leaves(&x) {
		for _, part := range l.parts() {
			for _, rest := range []byte{0, 255} {
				x := value(func(int) byte { return rest }, each(2))
				set(leaves(&x)[i].v, part)
				all = append(all, sample{fmt.Sprintf("%s is %x, the rest %d", l.name, part, rest), x})
			}
		}
	}
	return all
}

// parts are bytes that a leaf may have.
func (l leaf) parts() [][]byte {
	if l.isBit() {
		return [][]byte{{0}, {1}}
	}
	if l.isNumber() {
		return [][]byte{eight(nil, 0), eight(nil, 1), eight(nil, 1<<63), eight(nil, 1<<64-1), eight(nil, 0x0807060504030201)}
	}
	up := make([]byte, l.size)
	for i := range up {
		up[i] = rising(i)
	}
	return [][]byte{make([]byte, l.size), up, bytes.Repeat([]byte{255}, l.size)}
}

func chanceShape(r *rand.Rand) shape {
	var s shape
	for i := range s {
		s[i] = r.IntN(min(mostElements(i), 40) + 1)
	}
	return s
}

func chanceSamples() []sample {
	r := rand.New(rand.NewPCG(10, 1))
	var all []sample
	for i := range 150 {
		all = append(all, sample{fmt.Sprint("chance ", i), value(func(int) byte { return byte(r.Uint32()) }, chanceShape(r))})
	}
	return all
}

// greatSamples have lists as long as they may be, each apart and all together.
func greatSamples() []sample {
	greats := []sample{{"all lists full", value(rising, full())}}
	for i := range listCount {
		for _, less := range []int{0, 1} {
			s := each(1).with(i, mostElements(i)-less)
			greats = append(greats, sample{fmt.Sprint("rising, lists of ", s), value(rising, s)})
		}
	}
	return greats
}

// P10.1

func TestEnc(t *testing.T) {
	t.Parallel()
	for _, s := range append(samples(), greatSamples()...) {
		if got, err := state.EncState(s.x); !bytes.Equal(got, stateText(s.x)) || err != api.OK {
			t.Errorf("EncState, %s: %d bytes, error %d, other than by hand", s.name, len(got), err)
		}
	}
}

// tooLong: one list or more that are too long, the others being empty, full, or too long as well.
func tooLong() []shape {
	var all []shape
	for i := range listCount {
		for _, more := range []int{1, 2, 7, 8, 32, mostElements(i)} {
			all = append(all, each(0).with(i, mostElements(i)+more), each(1).with(i, mostElements(i)+more))
		}
		all = append(all, full().with(i, mostElements(i)+1))
		for j := range i {
			all = append(all, each(0).with(i, mostElements(i)+1).with(j, mostElements(j)+1))
		}
	}
	every := full()
	for i := range every {
		every[i]++
	}
	return append(all, every)
}

// zeroState with lists of such lengths, as fast as may be.
func zeroState(s shape) api.State {
	return api.State{
		History: make([]api.Root, s[history]), Votes: make([]api.Eth1, s[votes]), Validators: make([]api.Validator, s[validators]),
		Balances: make([]uint64, s[balances]), Previous: make([]uint8, s[previous]), Current: make([]uint8, s[current]), Scores: make([]uint64, s[scores]),
	}
}

func TestLongIsRefused(t *testing.T) {
	t.Parallel()
	for _, s := range tooLong() {
		x := zeroState(s)
		if got, err := state.EncState(x); len(got) != 0 || err != api.ErrLong {
			t.Errorf("EncState, lists of %v: %d bytes, error %d; want ErrLong", s, len(got), err)
		}
		if got, err := state.RootState(x); got != (api.Root{}) || err != api.ErrLong {
			t.Errorf("RootState, lists of %v: %x, error %d; want ErrLong", s, got, err)
		}
		if state.Right(x) {
			t.Errorf("Right, lists of %v: true", s)
		}
		if lengths(x) != s {
			t.Errorf("lists of %v became %v", s, lengths(x))
		}
	}
}

// TestLongStays: what is refused isn't changed.
func TestLongStays(t *testing.T) {
	t.Parallel()
	for i := range listCount {
		x := value(rising, each(2).with(i, mostElements(i)+1))
		before := whole(&x)
		state.EncState(x)
		state.RootState(x)
		state.Right(x)
		if whole(&x) != before {
			t.Errorf("%s too long: what was refused has changed", listName(i))
		}
	}
}

// spoil bytes and their spare room.
func spoil(b []byte) {
	b = b[:cap(b)]
	for i := range b {
		b[i] ^= 0xa5
	}
}

// spoilLists changes all that stands in the lists of a state, and in their spare room.
func spoilLists(x *api.State) {
	for _, l := range lists(x) {
		walk(l.Slice(0, l.Cap()), func(v reflect.Value, size int) { set(v, bytes.Repeat([]byte{0xa4}, size)) })
	}
}

// whole writes the state, and its lists with their spare room.
func whole(x *api.State) string {
	var text strings.Builder
	fmt.Fprint(&text, *x)
	for _, l := range lists(x) {
		fmt.Fprint(&text, l.Slice(0, l.Cap()))
	}
	return text.String()
}

// someShapes for what isn't asked of each sample.
func someShapes() []shape {
	return []shape{each(0), each(1), each(8), {1, 2, 3, 4, 5, 6, 7}, {3, 0, 2, 0, 33, 1, 0}, {0, 1, 0, 5, 0, 40, 9}}
}

func TestEncLeavesAndKeepsNothing(t *testing.T) {
	t.Parallel()
	for _, s := range someShapes() {
		x := value(rising, s)
		want, before := stateText(x), whole(&x)
		one, _ := state.EncState(x)
		other, _ := state.EncState(x)
		if whole(&x) != before {
			t.Errorf("EncState changed what it was given")
		}
		apart(t, "EncState", append(lists(&x), reflect.ValueOf(one), reflect.ValueOf(other)))
		spoil(one)
		if !bytes.Equal(other, want) || whole(&x) != before {
			t.Errorf("EncState: the state or a second answer changed with the first one")
		}
		if third, err := state.EncState(x); !bytes.Equal(third, want) || err != api.OK {
			t.Errorf("EncState: a later answer changed with the first one")
		}
		spoilLists(&x)
		if !bytes.Equal(other, want) {
			t.Errorf("EncState: the answer changed with the state")
		}
	}
}

// apart: no two of these lists share memory, their spare room neither.
func apart(t *testing.T, name string, all []reflect.Value) {
	t.Helper()
	type span struct{ begin, end uintptr }
	var spans []span
	for _, l := range all {
		if l.Cap() > 0 {
			spans = append(spans, span{l.Pointer(), l.Pointer() + uintptr(l.Cap())*l.Type().Elem().Size()})
		}
	}
	slices.SortFunc(spans, func(a, b span) int {
		if a.begin < b.begin {
			return -1
		}
		return 1
	})
	for i := 1; i < len(spans); i++ {
		if spans[i].begin < spans[i-1].end {
			t.Errorf("%s: two lists share memory", name)
		}
	}
	runtime.KeepAlive(all)
}

// P10.2

// TestRead: also of states that aren't right, since nothing of that is asked here.
func TestRead(t *testing.T) {
	t.Parallel()
	for _, s := range append(samples(), greatSamples()...) {
		if got, err := state.ReadState(stateText(s.x)); !same(got, s.x) || err != api.OK {
			t.Errorf("ReadState, %s: error %d, or another state", s.name, err)
		}
	}
}

// wantRefused: an error, and the zero state beside it.
func wantRefused(t *testing.T, what string, b []byte, want api.Errno) {
	t.Helper()
	if got, err := state.ReadState(b); !same(got, api.State{}) || err != want {
		t.Errorf("ReadState of %s: lists of %v, error %d; want error %d and zeros", what, lengths(got), err, want)
	}
}

// wantAsByHand holds ReadState against the second reading of what is refused; what isn't has just these bytes.
func wantAsByHand(t *testing.T, what string, b []byte) {
	t.Helper()
	if want := refuse(b); want != api.OK {
		wantRefused(t, what, b, want)
		return
	}
	x, err := state.ReadState(b)
	if err != api.OK || !bytes.Equal(stateText(x), b) {
		t.Errorf("ReadState of %s: lists of %v, error %d; want what has these bytes", what, lengths(x), err)
	}
}

// TestReadAtEachLength: no bytes, each number too few, some too many, of several shapes.
func TestReadAtEachLength(t *testing.T) {
	t.Parallel()
	wantRefused(t, "nil", nil, api.ErrSize)
	wantRefused(t, "no bytes", []byte{}, api.ErrSize)
	wantRefused(t, "no bytes with spare room", make([]byte, 0, 10000), api.ErrSize)
	for _, s := range someShapes() {
		b := stateText(value(rising, s))
		for length := range b {
			wantAsByHand(t, fmt.Sprintf("the first %d bytes of %d", length, len(b)), b[:length])
		}
		for more := 1; more <= 40; more++ {
			for _, v := range []byte{0, 1, 2, 255} {
				longer := append(bytes.Clone(b), bytes.Repeat([]byte{v}, more)...)
				wantAsByHand(t, fmt.Sprintf("%d bytes %d behind %d", more, v, len(b)), longer)
			}
		}
	}
	for _, length := range []int{1, 4, 688, 692, 2100, 2101, 2102, 65536, 1 << 20} {
		for _, v := range []byte{0, 1, 2, 8, 53, 255} {
			wantAsByHand(t, fmt.Sprintf("%d bytes %d", length, v), bytes.Repeat([]byte{v}, length))
		}
	}
}

// TestReadWithEachByteChanged: also offsets, the four bits and the validators' flags.
func TestReadWithEachByteChanged(t *testing.T) {
	t.Parallel()
	for _, s := range []shape{each(0), each(2), {1, 2, 3, 4, 5, 6, 7}} {
		b := stateText(value(rising, s))
		for at := range b {
			for _, change := range []byte{1, 2, 4, 8, 16, 128, b[at], ^b[at]} {
				changed := bytes.Clone(b)
				changed[at] ^= change
				wantAsByHand(t, fmt.Sprintf("%d bytes, that at %d being %d", len(b), at, changed[at]), changed)
			}
		}
	}
}

// TestReadByChance: mostly offsets are changed, as there is little else that may be wrong.
func TestReadByChance(t *testing.T) {
	t.Parallel()
	r := rand.New(rand.NewPCG(10, 2))
	seen := map[api.Errno]int{}
	for i := range 8000 {
		s := chanceShape(r)
		if i%8 == 3 {
			s[votes] = 7 + r.IntN(4) // eight is the greatest number
		}
		b := stateText(value(all(byte(i)), s))
		switch i % 4 {
		case 0:
			b = b[:r.IntN(len(b)+1)]
		case 1:
			b = append(b, bytes.Repeat([]byte{byte(r.IntN(3))}, r.IntN(600))...)
		case 2:
			l := r.IntN(listCount)
			to := offset(b, offsetAt(l)) + (r.IntN(5)-2)*elementSize(r.IntN(listCount))
			copy(b[offsetAt(l):], four(nil, to))
		}
		for range r.IntN(4) {
			if len(b) > 0 {
				b[r.IntN(len(b))] = byte(r.Uint32())
			}
		}
		seen[refuse(b)]++
		wantAsByHand(t, fmt.Sprintf("chance %d: %x", i, b), b)
	}
	for _, err := range []api.Errno{api.OK, api.ErrSize, api.ErrForm, api.ErrLong} {
		if seen[err] < 50 {
			t.Errorf("chance asked for the error %d just %d times", err, seen[err])
		}
	}
}

func TestReadLeavesAndKeepsNothing(t *testing.T) {
	t.Parallel()
	const spare = 64
	for _, s := range someShapes() {
		want := value(rising, s)
		b := stateText(want)
		roomy := append(bytes.Clone(b), bytes.Repeat([]byte{7}, spare)...)
		before := bytes.Clone(roomy)
		got, err := state.ReadState(roomy[:len(b)])
		if !same(got, want) || err != api.OK {
			t.Errorf("ReadState, lists of %v: error %d, or another state", s, err)
		}
		if !bytes.Equal(roomy, before) {
			t.Errorf("ReadState changed its bytes or their spare room")
		}
		spoil(roomy)
		if !same(got, want) {
			t.Errorf("ReadState: the answer changed with the bytes")
		}
	}
	right := stateText(value(rising, each(3)))
	for _, wrong := range [][]byte{right[1:], right[:len(right)-1], append(bytes.Clone(right), 1), bytes.Repeat([]byte{2}, 3000)} {
		before := bytes.Clone(wrong)
		if _, err := state.ReadState(wrong); err == api.OK || !bytes.Equal(wrong, before) {
			t.Errorf("ReadState: error %d, or the refused bytes have changed", err)
		}
	}
}

// TestReadAnswersNewMemory: a list that is answered shares nothing, its spare room neither, with the bytes, another list or another answer.
func TestReadAnswersNewMemory(t *testing.T) {
	t.Parallel()
	for _, s := range someShapes() {
		want := value(rising, s)
		b := stateText(want)
		got, _ := state.ReadState(b)
		other, _ := state.ReadState(b)
		apart(t, "ReadState", slices.Concat(lists(&got), lists(&other), []reflect.Value{reflect.ValueOf(b)}))
		spoilLists(&got)
		if !bytes.Equal(b, stateText(want)) || !same(other, want) {
			t.Errorf("ReadState: the bytes or another answer changed with the first one")
		}
		if third, err := state.ReadState(b); !same(third, want) || err != api.OK {
			t.Errorf("ReadState: a later answer changed with the first one")
		}
	}
}

func TestThereAndBack(t *testing.T) {
	t.Parallel()
	for _, s := range append(samples(), greatSamples()[0]) {
		b, err := state.EncState(s.x)
		if err != api.OK {
			t.Errorf("EncState, %s: error %d", s.name, err)
		}
		x, err := state.ReadState(b)
		if !same(x, s.x) || err != api.OK {
			t.Errorf("%s: encoded and read again: error %d, or another state", s.name, err)
		}
		if again, err := state.EncState(x); !bytes.Equal(again, b) || err != api.OK {
			t.Errorf("%s: read and encoded again: error %d, or other bytes", s.name, err)
		}
	}
}

// P10.3

func TestRoot(t *testing.T) {
	t.Parallel()
	for _, s := range append(samples(), greatSamples()...) {
		want := stateRoot(s.x)
		if got, err := state.RootState(s.x); got != want || err != api.OK {
			t.Errorf("RootState, %s: %x, error %d; want %x", s.name, got, err, want)
		}
	}
}

func TestRootLeavesAll(t *testing.T) {
	t.Parallel()
	for _, s := range someShapes() {
		x := value(rising, s)
		before := whole(&x)
		one, _ := state.RootState(x)
		two, _ := state.RootState(x)
		if whole(&x) != before || one != two {
			t.Errorf("RootState: asked again, another root or another state")
		}
		spoilLists(&x)
		if three, err := state.RootState(x); three != stateRoot(x) || err != api.OK {
			t.Errorf("RootState: of a changed state %x, error %d", three, err)
		}
	}
}

// TestEachByteCounts: a bit of each byte of each leaf, alone, is told by bytes, by what is read and by the root, and no two are told alike.
func TestEachByteCounts(t *testing.T) {
	t.Parallel()
	x := value(all(0), each(3))
	none, _ := state.RootState(x)
	seen := map[api.Root]string{none: "none"}
	for _, l := range leaves(&x) {
		for i := range l.size {
			b := make([]byte, l.size)
			b[i] = 1
			if !l.isBit() {
				b[i] = 1 << (i % 8)
			}
			set(l.v, b)
			name := fmt.Sprintf("the byte %d of %s", i, l.name)
			encoded, err := state.EncState(x)
			if !bytes.Equal(encoded, stateText(x)) || err != api.OK {
				t.Errorf("EncState of %s: %x, error %d", name, encoded, err)
			}
			if got, err := state.ReadState(encoded); !same(got, x) || err != api.OK {
				t.Errorf("ReadState of %s: %v, error %d", name, got, err)
			}
			root, err := state.RootState(x)
			if other, ok := seen[root]; ok || err != api.OK {
				t.Errorf("RootState: %s has the root of %s, error %d", name, other, err)
			}
			seen[root] = name
		}
		set(l.v, make([]byte, l.size))
	}
}

// TestEachLengthCounts: lists of zeros of different lengths have other bytes and another root, in each list.
func TestEachLengthCounts(t *testing.T) {
	t.Parallel()
	seenRoots := map[api.Root]shape{}
	seenBytes := map[string]shape{}
	asked := []shape{each(0)}
	for i := range listCount {
		for n := 1; n <= min(mostElements(i), 70); n++ {
			asked = append(asked, each(0).with(i, n))
		}
		for j := range i {
			asked = append(asked, each(0).with(i, 1).with(j, 1), each(0).with(i, 1).with(j, 2), each(0).with(i, 2).with(j, 1))
		}
	}
	for _, s := range asked {
		x := zeroState(s)
		b, _ := state.EncState(x)
		root, _ := state.RootState(x)
		if other, ok := seenRoots[root]; ok {
			t.Errorf("RootState: zeros in lists of %v have the root of %v", s, other)
		}
		if other, ok := seenBytes[string(b)]; ok {
			t.Errorf("EncState: zeros in lists of %v have the bytes of %v", s, other)
		}
		seenRoots[root] = s
		seenBytes[string(b)] = s
	}
}

// TestNilIsEmpty: nil and an empty list are the same, each list apart and all of them.
func TestNilIsEmpty(t *testing.T) {
	t.Parallel()
	alike := func(empty, null api.State) {
		t.Helper()
		emptyBytes, err := state.EncState(empty)
		nullBytes, nullErr := state.EncState(null)
		if !bytes.Equal(emptyBytes, nullBytes) || err != api.OK || nullErr != api.OK {
			t.Errorf("EncState: empty lists: %x, error %d; nil: %x, error %d", emptyBytes, err, nullBytes, nullErr)
		}
		emptyRoot, err := state.RootState(empty)
		nullRoot, nullErr := state.RootState(null)
		if emptyRoot != nullRoot || err != api.OK || nullErr != api.OK {
			t.Errorf("RootState: empty lists: %x, error %d; nil: %x, error %d", emptyRoot, err, nullRoot, nullErr)
		}
		if state.Right(empty) != state.Right(null) {
			t.Errorf("Right: empty lists: %v; nil: %v", state.Right(empty), state.Right(null))
		}
	}
	for _, of := range []ground{all(0), rising} {
		null := value(of, each(0))
		for _, l := range lists(&null) {
			l.SetZero()
		}
		alike(value(of, each(0)), null)
		for i := range listCount {
			empty, null := value(of, each(2).with(i, 0)), value(of, each(2).with(i, 0))
			lists(&null)[i].SetZero()
			alike(empty, null)
		}
	}
	if !state.Right(zeroState(each(0))) {
		t.Errorf("Right of the zero state with empty lists: false")
	}
}
