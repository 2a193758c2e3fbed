package block_test

import (
	"bytes"
	"fmt"
	"math/rand/v2"
	"reflect"
	"runtime"
	"slices"
	"strings"
	"testing"

	"pharos/api"
)

func TestBody(t *testing.T)        { hold(t, bodies()) }
func TestBlock(t *testing.T)       { hold(t, blocks()) }
func TestSignedBlock(t *testing.T) { hold(t, signedBlocks()) }

// hold the three promises for one type.
func hold[T any](t *testing.T, k kind[T]) {
	t.Parallel()
	samples := k.samples()
	t.Run("Enc", func(t *testing.T) { encodes(t, k, samples) })
	t.Run("EncRefusesLong", func(t *testing.T) { encRefusesLong(t, k) })
	t.Run("EncLeavesAndKeepsNothing", func(t *testing.T) { encLeavesAll(t, k) })
	t.Run("Read", func(t *testing.T) { reads(t, k, samples) })
	t.Run("ReadAtEachLength", func(t *testing.T) { readsAtEachLength(t, k) })
	t.Run("ReadWithEachByteChanged", func(t *testing.T) { readsWithEachByteChanged(t, k) })
	t.Run("ReadByChance", func(t *testing.T) { readsByChance(t, k) })
	t.Run("ReadLeavesAndKeepsNothing", func(t *testing.T) { readLeavesAll(t, k) })
	t.Run("ReadAnswersNewMemory", func(t *testing.T) { readAnswersNewMemory(t, k) })
	t.Run("ThereAndBack", func(t *testing.T) { thereAndBack(t, k, samples) })
	t.Run("Root", func(t *testing.T) { roots(t, k, samples) })
	t.Run("RootRefusesLong", func(t *testing.T) { rootRefusesLong(t, k) })
	t.Run("RootLeavesAll", func(t *testing.T) { rootLeavesAll(t, k) })
	t.Run("EachByteCounts", func(t *testing.T) { eachByteCounts(t, k) })
	t.Run("EachLengthCounts", func(t *testing.T) { eachLengthCounts(t, k) })
}

// alike: nil and an empty list are the same, and are written alike.
func alike(a, b any) bool { return fmt.Sprint(a) == fmt.Sprint(b) }

// sample is a container that may be encoded.
type sample[T any] struct {
	name string
	x    T
}

// shape tells how long a body's lists are; those inside of their elements have the inner lengths in turn.
type shape struct {
	proposers, attesters, attests, deposits, exits int
	inner                                          []int
}

func full(inner ...int) shape { return shape{2, 1, 4, 2, 2, inner} }

// room for so many, and some spare room.
func room[T any](n int) []T { return make([]T, n, n+3) }

func (s shape) make(x *api.Body) {
	turn := 0
	next := func() int {
		turn++
		return s.inner[(turn-1)%len(s.inner)]
	}
	x.ProposerSlashings = room[api.ProposerSlashing](s.proposers)
	x.AttesterSlashings = room[api.AttesterSlashing](s.attesters)
	for i := range x.AttesterSlashings {
		x.AttesterSlashings[i].One.Who = room[uint64](next())
		x.AttesterSlashings[i].Two.Who = room[uint64](next())
	}
	x.Attests = room[api.Attest](s.attests)
	for i := range x.Attests {
		x.Attests[i].Bits = room[bool](next())
	}
	x.Deposits = room[api.Deposit](s.deposits)
	x.Exits = room[api.SignedExit](s.exits)
}

// ground makes a byte of each place, counted over all leaves.
type ground func(i int) byte

func all(v byte) ground { return func(int) byte { return v } }

// rising bytes from 1 on: neighbours differ, so that none can be told for the other.
func rising(i int) byte { return byte(i + 1) }

// value of this shape whose leaves have the ground's bytes.
func (k kind[T]) value(of ground, s shape) T {
	var x T
	s.make(k.body(&x))
	at := 0
	for _, l := range leaves(&x) {
		b := make([]byte, l.size)
		for i := range b {
			b[i] = of(at)
			at++
		}
		l.set(b)
	}
	return x
}

// shapes are all numbers of elements that there may be.
func shapes() []shape {
	lengths := []int{0, 1, 64, 63, 7, 8, 9, 16, 2, 33, 31, 4, 3, 5, 62, 32, 17}
	var all []shape
	for i := range 3 * 2 * 5 * 3 * 3 {
		turn := i % len(lengths)
		inner := append(slices.Clone(lengths[turn:]), lengths[:turn]...)
		all = append(all, shape{i % 3, i / 3 % 2, i / 6 % 5, i / 30 % 3, i / 90, inner})
	}
	return all
}

func (k kind[T]) samples() []sample[T] {
	var zero T
	samples := []sample[T]{{"zero, nil lists", zero}}
	for _, s := range shapes() {
		samples = append(samples,
			sample[T]{fmt.Sprint("zeros, lists of ", s), k.value(all(0), s)},
			sample[T]{fmt.Sprint("255, lists of ", s), k.value(all(255), s)},
			sample[T]{fmt.Sprint("rising, lists of ", s), k.value(rising, s)},
		)
	}
	return append(append(samples, k.leafSamples()...), k.chanceSamples()...)
}

// leafSamples set each leaf apart.
func (k kind[T]) leafSamples() []sample[T] {
	var samples []sample[T]
	x := k.value(all(0), full(2))
	for i, l := range leaves(&x) {
		for _, part := range l.parts() {
			for _, rest := range []byte{0, 255} {
				x := k.value(all(rest), full(2))
				leaves(&x)[i].set(part)
				samples = append(samples, sample[T]{fmt.Sprintf("%s is %x, the rest %d", l.name, part, rest), x})
			}
		}
	}
	return samples
}

// parts are bytes that a leaf may have.
func (l leaf) parts() [][]byte {
	if l.isBit() {
		return [][]byte{{0}, {1}}
	}
	if l.isNumber() {
		return [][]byte{eight(nil, 0), eight(nil, 1), eight(nil, 1<<63), eight(nil, 1<<64-1), eight(nil, 0x0807060504030201)}
	}
	up := make([]byte, l.size)
	for i := range up {
		up[i] = rising(i)
	}
	return [][]byte{make([]byte, l.size), up, bytes.Repeat([]byte{255}, l.size)}
}

func (k kind[T]) chanceShape(r *rand.Rand) shape {
	inner := make([]int, 6)
	for i := range inner {
		inner[i] = r.IntN(65)
	}
	return shape{r.IntN(3), r.IntN(2), r.IntN(5), r.IntN(3), r.IntN(3), inner}
}

func (k kind[T]) chanceSamples() []sample[T] {
	r := rand.New(rand.NewPCG(9, uint64(len(k.name))))
	var samples []sample[T]
	for i := range 100 {
		samples = append(samples, sample[T]{fmt.Sprint("chance ", i), k.value(func(int) byte { return byte(r.Uint32()) }, k.chanceShape(r))})
	}
	return samples
}

// P9.1

func encodes[T any](t *testing.T, k kind[T], samples []sample[T]) {
	for _, s := range samples {
		want := k.bytes(s.x)
		if got, err := k.enc(s.x); !bytes.Equal(got, want) || err != api.OK {
			t.Errorf("Enc%s, %s: %x, error %d; want %x", k.name, s.name, got, err, want)
		}
	}
}

// longShapes have one list that is too long, the others being empty, or as long as they may be, or too long as well.
func longShapes() []shape {
	var all []shape
	for _, more := range []int{1, 2, 3, 4, 8, 60, 1000} {
		for _, s := range []shape{{inner: []int{0}}, full(1), full(64), {3, 2, 5, 3, 3, []int{65}}} {
			one := []shape{s, s, s, s, s}
			one[0].proposers = 2 + more
			one[1].attesters = 1 + more
			one[2].attests = 4 + more
			one[3].deposits = 2 + more
			one[4].exits = 2 + more
			all = append(all, one...)
		}
	}
	return append(all, longInnerShapes()...)
}

// longInnerShapes have one list too long inside of an element.
func longInnerShapes() []shape {
	var all []shape
	for _, n := range []int{65, 66, 72, 128, 256, 257, 1000} {
		for _, rest := range []int{0, 1, 64} {
			for at := range 6 {
				inner := []int{rest, rest, rest, rest, rest, rest}
				inner[at] = n
				all = append(all, full(inner...))
			}
			all = append(all,
				shape{attesters: 1, inner: []int{n, rest}},
				shape{attesters: 1, inner: []int{rest, n}},
				shape{attests: 1, inner: []int{n}},
				shape{attests: 2, inner: []int{rest, n}},
			)
		}
	}
	return all
}

func (k kind[T]) tooLong() []sample[T] {
	var samples []sample[T]
	for _, s := range longShapes() {
		samples = append(samples, sample[T]{fmt.Sprint("zeros, lists of ", s), k.value(all(0), s)})
	}
	for _, s := range longInnerShapes() {
		samples = append(samples, sample[T]{fmt.Sprint("rising, lists of ", s), k.value(rising, s)})
	}
	return samples
}

func encRefusesLong[T any](t *testing.T, k kind[T]) {
	for _, s := range k.tooLong() {
		if got, err := k.enc(s.x); len(got) != 0 || err != api.ErrLong {
			t.Errorf("Enc%s, %s: %d bytes, error %d; want ErrLong", k.name, s.name, len(got), err)
		}
	}
}

// spoil bytes and their spare room.
func spoil(b []byte) {
	b = b[:cap(b)]
	for i := range b {
		b[i] ^= 0xa5
	}
}

// spoilLists changes all that stands in the lists of a container.
func spoilLists(x any) {
	for _, l := range lists(x) {
		all := l.Slice(0, l.Cap())
		for i := range all.Len() {
			for _, one := range leavesOf("", all.Index(i)) {
				one.set(bytes.Repeat([]byte{0xa4}, one.size))
			}
		}
	}
}

// whole writes the container, and its lists with their spare room.
func whole(x any) string {
	var text strings.Builder
	fmt.Fprint(&text, x)
	for _, l := range lists(x) {
		fmt.Fprint(&text, l.Slice(0, l.Cap()))
	}
	return text.String()
}

// someShapes for what isn't asked of each sample.
func someShapes() []shape {
	return []shape{{inner: []int{0}}, {1, 1, 1, 1, 1, []int{0}}, {1, 0, 2, 0, 1, []int{1}}, full(64), full(63, 8, 1)}
}

func someLongShapes() []shape {
	return []shape{
		{proposers: 3, inner: []int{0}}, {attesters: 2, inner: []int{1}}, {attests: 5, inner: []int{1}}, {deposits: 3, inner: []int{0}},
		{exits: 3, inner: []int{0}}, full(65), full(0, 65), full(1, 1, 1, 1, 1, 65),
	}
}

func encLeavesAll[T any](t *testing.T, k kind[T]) {
	for _, s := range someShapes() {
		x := k.value(rising, s)
		want, before := k.bytes(x), whole(&x)
		one, _ := k.enc(x)
		other, _ := k.enc(x)
		if whole(&x) != before {
			t.Errorf("Enc%s changed what it was given", k.name)
		}
		apart(t, "Enc"+k.name, append(lists(&x), reflect.ValueOf(one), reflect.ValueOf(other)))
		spoil(one)
		if !bytes.Equal(other, want) || whole(&x) != before {
			t.Errorf("Enc%s: the container or a second answer changed with the first one", k.name)
		}
		if third, err := k.enc(x); !bytes.Equal(third, want) || err != api.OK {
			t.Errorf("Enc%s: a later answer changed with the first one", k.name)
		}
		spoilLists(&x)
		if !bytes.Equal(other, want) {
			t.Errorf("Enc%s: the answer changed with the container", k.name)
		}
	}
	for _, s := range someLongShapes() {
		x := k.value(rising, s)
		before := whole(&x)
		k.enc(x)
		if whole(&x) != before {
			t.Errorf("Enc%s, lists of %v: what was refused has changed", k.name, s)
		}
	}
}

// apart: no two of these lists share memory, their spare room neither.
func apart(t *testing.T, name string, all []reflect.Value) {
	t.Helper()
	type span struct{ begin, end uintptr }
	var spans []span
	for _, l := range all {
		if l.Cap() > 0 {
			spans = append(spans, span{l.Pointer(), l.Pointer() + uintptr(l.Cap())*l.Type().Elem().Size()})
		}
	}
	slices.SortFunc(spans, func(a, b span) int {
		if a.begin < b.begin {
			return -1
		}
		return 1
	})
	for i := 1; i < len(spans); i++ {
		if spans[i].begin < spans[i-1].end {
			t.Errorf("%s: two lists share memory", name)
		}
	}
	runtime.KeepAlive(all)
}

// P9.2

func reads[T any](t *testing.T, k kind[T], samples []sample[T]) {
	for _, s := range samples {
		if got, err := k.read(k.bytes(s.x)); !alike(got, s.x) || err != api.OK {
			t.Errorf("Read%s, %s: %v, error %d; want %v", k.name, s.name, got, err, s.x)
		}
	}
}

// wantRefused: an error, and the zero value beside it.
func wantRefused[T any](t *testing.T, k kind[T], what string, b []byte, want api.Errno) {
	t.Helper()
	var none T
	if got, err := k.read(b); !alike(got, none) || err != want {
		t.Errorf("Read%s of %s: %v, error %d; want error %d", k.name, what, got, err, want)
	}
}

// wantAsByHand holds Read against the second reading of what is refused; what isn't has just these bytes.
func wantAsByHand[T any](t *testing.T, k kind[T], what string, b []byte) {
	t.Helper()
	if want := k.refuse(b); want != api.OK {
		wantRefused(t, k, what, b, want)
		return
	}
	x, err := k.read(b)
	if err != api.OK || !bytes.Equal(k.bytes(x), b) {
		t.Errorf("Read%s of %s: %v, error %d; want what has the bytes %x", k.name, what, x, err, b)
	}
}

// readsAtEachLength: no bytes, each number too few, some too many, of several shapes.
func readsAtEachLength[T any](t *testing.T, k kind[T]) {
	wantRefused(t, k, "nil", nil, api.ErrSize)
	wantRefused(t, k, "no bytes", []byte{}, api.ErrSize)
	wantRefused(t, k, "no bytes with spare room", make([]byte, 0, 1000), api.ErrSize)
	for _, s := range someShapes() {
		b := k.bytes(k.value(rising, s))
		for length := range b {
			wantAsByHand(t, k, fmt.Sprintf("the first %d bytes of %d", length, len(b)), b[:length])
		}
		for more := 1; more <= 20; more++ {
			for _, v := range []byte{0, 1, 2, 255} {
				longer := append(bytes.Clone(b), bytes.Repeat([]byte{v}, more)...)
				wantAsByHand(t, k, fmt.Sprintf("%d bytes %d behind %d", more, v, len(b)), longer)
			}
		}
		// Exits more than there may be stand behind all else.
		for more := 112; more <= 448; more += 112 {
			wantAsByHand(t, k, fmt.Sprintf("%d bytes behind %d", more, len(b)), append(bytes.Clone(b), make([]byte, more)...))
		}
	}
	for _, length := range []int{83, 84, 99, 100, 184, 316, 317, 318, 401, 501, 1000, 65536, 70000} {
		for _, v := range []byte{0, 1, 2, 84, 100, 255} {
			wantAsByHand(t, k, fmt.Sprintf("%d bytes %d", length, v), bytes.Repeat([]byte{v}, length))
		}
	}
}

// readsWithEachByteChanged: also offsets, and the bytes with the bit that tells a length.
func readsWithEachByteChanged[T any](t *testing.T, k kind[T]) {
	for _, s := range []shape{{inner: []int{0}}, {1, 1, 2, 1, 1, []int{1, 0, 7, 8}}, full(2, 3, 0, 1, 8, 64)} {
		b := k.bytes(k.value(rising, s))
		for at := range b {
			for _, change := range []byte{1, 2, 4, 8, 128, b[at], ^b[at]} {
				changed := bytes.Clone(b)
				changed[at] ^= change
				wantAsByHand(t, k, fmt.Sprintf("%d bytes, that at %d being %d", len(b), at, changed[at]), changed)
			}
		}
	}
}

// readsByChance: mostly offsets are changed, as there is little else that may be wrong.
func readsByChance[T any](t *testing.T, k kind[T]) {
	r := rand.New(rand.NewPCG(99, uint64(len(k.name))))
	for i := range 6000 {
		x := k.value(all(byte(i)), k.chanceShape(r))
		b := k.bytes(x)
		begin := len(b) - len(bodyBytes(*k.body(&x)))
		switch i % 4 {
		case 0:
			b = b[:r.IntN(len(b)+1)]
		case 1:
			b = append(b, bytes.Repeat([]byte{byte(r.IntN(3))}, r.IntN(600))...)
		case 2:
			at := begin + 200 + 4*r.IntN(5)
			to := offset(b, at) + r.IntN(9) - 4 + (r.IntN(3)-1)*[]int{4, 408, 416, 112, 229}[r.IntN(5)]
			copy(b[at:], four(nil, to))
		}
		for range r.IntN(4) {
			if len(b) > 0 {
				b[r.IntN(len(b))] = byte(r.Uint32())
			}
		}
		wantAsByHand(t, k, fmt.Sprintf("chance %d: %x", i, b), b)
	}
}

func readLeavesAll[T any](t *testing.T, k kind[T]) {
	const spare = 64
	for _, s := range someShapes() {
		want := k.value(rising, s)
		b := k.bytes(want)
		whole := append(bytes.Clone(b), bytes.Repeat([]byte{7}, spare)...)
		before := bytes.Clone(whole)
		got, err := k.read(whole[:len(b)])
		if !alike(got, want) || err != api.OK {
			t.Errorf("Read%s: %v, error %d; want %v", k.name, got, err, want)
		}
		if !bytes.Equal(whole, before) {
			t.Errorf("Read%s changed its bytes or their spare room", k.name)
		}
		spoil(whole)
		if !alike(got, want) {
			t.Errorf("Read%s: the answer changed with the bytes", k.name)
		}
	}
	right := k.bytes(k.value(rising, full(3)))
	for _, wrong := range [][]byte{right[1:], right[:len(right)-1], append(right, make([]byte, 112)...), bytes.Repeat([]byte{2}, 1000)} {
		before := bytes.Clone(wrong)
		k.read(wrong)
		if !bytes.Equal(wrong, before) {
			t.Errorf("Read%s changed bytes that it refused", k.name)
		}
	}
}

// readAnswersNewMemory: a list that is answered shares nothing, its spare room neither, with the bytes, another list or another answer.
func readAnswersNewMemory[T any](t *testing.T, k kind[T]) {
	for _, s := range someShapes() {
		want := k.value(rising, s)
		b := k.bytes(want)
		got, _ := k.read(b)
		other, _ := k.read(b)
		apart(t, "Read"+k.name, slices.Concat(lists(&got), lists(&other), []reflect.Value{reflect.ValueOf(b)}))
		spoilLists(&got)
		if !bytes.Equal(b, k.bytes(want)) || !alike(other, want) {
			t.Errorf("Read%s: the bytes or another answer changed with the first one", k.name)
		}
		if third, err := k.read(b); !alike(third, want) || err != api.OK {
			t.Errorf("Read%s: a later answer changed with the first one", k.name)
		}
	}
}

func thereAndBack[T any](t *testing.T, k kind[T], samples []sample[T]) {
	for _, s := range samples {
		b, err := k.enc(s.x)
		if err != api.OK {
			t.Errorf("Enc%s, %s: error %d", k.name, s.name, err)
		}
		x, err := k.read(b)
		if !alike(x, s.x) || err != api.OK {
			t.Errorf("%s, %s: encoded and read again: %v, error %d; want %v", k.name, s.name, x, err, s.x)
		}
		if again, err := k.enc(x); !bytes.Equal(again, b) || err != api.OK {
			t.Errorf("%s, %s: read and encoded again: %x, error %d; want %x", k.name, s.name, again, err, b)
		}
	}
}

// P9.3

func roots[T any](t *testing.T, k kind[T], samples []sample[T]) {
	for _, s := range samples {
		want := k.plain(s.x)
		if got, err := k.root(s.x); got != want || err != api.OK {
			t.Errorf("Root%s, %s: %x, error %d; want %x", k.name, s.name, got, err, want)
		}
	}
}

func rootRefusesLong[T any](t *testing.T, k kind[T]) {
	for _, s := range k.tooLong() {
		if got, err := k.root(s.x); got != (api.Root{}) || err != api.ErrLong {
			t.Errorf("Root%s, %s: %x, error %d; want ErrLong", k.name, s.name, got, err)
		}
	}
}

func rootLeavesAll[T any](t *testing.T, k kind[T]) {
	for _, s := range append(someShapes(), someLongShapes()...) {
		x := k.value(rising, s)
		before := whole(&x)
		one, _ := k.root(x)
		two, _ := k.root(x)
		if whole(&x) != before || one != two {
			t.Errorf("Root%s: asked again, another root or another container", k.name)
		}
	}
}

// eachByteCounts: a bit of each byte of each leaf, alone, is told by bytes, by what is read and by the root, and no two are told alike.
func eachByteCounts[T any](t *testing.T, k kind[T]) {
	shape := full(3)
	none, _ := k.root(k.value(all(0), shape))
	seen := map[api.Root]string{none: "none"}
	x := k.value(all(0), shape)
	for _, l := range leaves(&x) {
		for i := range l.size {
			b := make([]byte, l.size)
			b[i] = 1
			if !l.isBit() {
				b[i] = 1 << (i % 8)
			}
			l.set(b)
			name := fmt.Sprintf("the byte %d of %s", i, l.name)
			encoded, err := k.enc(x)
			if !bytes.Equal(encoded, k.bytes(x)) || err != api.OK {
				t.Errorf("Enc%s of %s: %x, error %d", k.name, name, encoded, err)
			}
			if got, err := k.read(encoded); !reflect.DeepEqual(got, x) || err != api.OK {
				t.Errorf("Read%s of %s: %v, error %d", k.name, name, got, err)
			}
			root, err := k.root(x)
			if other, ok := seen[root]; ok || err != api.OK {
				t.Errorf("Root%s: %s has the root of %s, error %d", k.name, name, other, err)
			}
			seen[root] = name
		}
		l.set(make([]byte, l.size))
	}
}

// eachLengthCounts: lists of zeros of different lengths have other bytes and another root, in each list; nil and empty ones have the same.
func eachLengthCounts[T any](t *testing.T, k kind[T]) {
	seenRoots := map[api.Root]shape{}
	seenBytes := map[string]shape{}
	all270 := shapes()
	for i := range all270 {
		all270[i].inner = []int{0}
	}
	var inner []shape
	for n := 1; n <= 64; n++ {
		inner = append(inner,
			shape{attesters: 1, inner: []int{n, 0}},
			shape{attesters: 1, inner: []int{0, n}},
			shape{attests: 1, inner: []int{n}},
			shape{attests: 2, inner: []int{0, n}},
			shape{attests: 2, inner: []int{n, 0}},
		)
	}
	for _, s := range append(all270, inner...) {
		x := k.value(all(0), s)
		b, _ := k.enc(x)
		root, _ := k.root(x)
		if other, ok := seenRoots[root]; ok {
			t.Errorf("Root%s: zeros in lists of %v have the root of %v", k.name, s, other)
		}
		if other, ok := seenBytes[string(b)]; ok {
			t.Errorf("Enc%s: zeros in lists of %v have the bytes of %v", k.name, s, other)
		}
		seenRoots[root] = s
		seenBytes[string(b)] = s
	}
	emptyIsNil(t, k)
}

func emptyIsNil[T any](t *testing.T, k kind[T]) {
	for _, s := range []shape{{inner: []int{0}}, full(0)} {
		empty, null := k.value(rising, s), k.value(rising, s)
		for _, l := range lists(&null) {
			if l.Len() == 0 {
				l.SetZero()
			}
		}
		emptyBytes, err := k.enc(empty)
		nullBytes, nullErr := k.enc(null)
		if !bytes.Equal(emptyBytes, nullBytes) || err != api.OK || nullErr != api.OK {
			t.Errorf("Enc%s: empty lists: %x, error %d; nil: %x, error %d", k.name, emptyBytes, err, nullBytes, nullErr)
		}
		emptyRoot, err := k.root(empty)
		nullRoot, nullErr := k.root(null)
		if emptyRoot != nullRoot || err != api.OK || nullErr != api.OK {
			t.Errorf("Root%s: empty lists: %x, error %d; nil: %x, error %d", k.name, emptyRoot, err, nullRoot, nullErr)
		}
	}
}
