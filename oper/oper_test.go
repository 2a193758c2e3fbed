package oper_test

import (
	"bytes"
	"fmt"
	"math/rand/v2"
	"testing"

	"pharos/api"
)

func TestIndexed(t *testing.T)          { hold(t, indexeds()) }
func TestAttest(t *testing.T)           { hold(t, attests()) }
func TestProposerSlashing(t *testing.T) { hold(t, proposerSlashings()) }
func TestAttesterSlashing(t *testing.T) { hold(t, attesterSlashings()) }
func TestDeposit(t *testing.T)          { hold(t, deposits()) }

// hold the three promises for one type.
func hold[T any](t *testing.T, k kind[T]) {
	t.Run("Enc", func(t *testing.T) { encodes(t, k) })
	t.Run("EncRefusesLong", func(t *testing.T) { encRefusesLong(t, k) })
	t.Run("EncLeavesAndKeepsNothing", func(t *testing.T) { encLeavesAll(t, k) })
	t.Run("Read", func(t *testing.T) { reads(t, k) })
	t.Run("ReadAtEachLength", func(t *testing.T) { readsAtEachLength(t, k) })
	t.Run("ReadWithEachByteChanged", func(t *testing.T) { readsWithEachByteChanged(t, k) })
	t.Run("ReadByChance", func(t *testing.T) { readsByChance(t, k) })
	t.Run("ReadLeavesAndKeepsNothing", func(t *testing.T) { readLeavesAll(t, k) })
	t.Run("ReadAnswersNewMemory", func(t *testing.T) { readAnswersNewMemory(t, k) })
	t.Run("ThereAndBack", func(t *testing.T) { thereAndBack(t, k) })
	t.Run("Root", func(t *testing.T) { roots(t, k) })
	t.Run("RootRefusesLong", func(t *testing.T) { rootRefusesLong(t, k) })
	t.Run("RootLeavesAll", func(t *testing.T) { rootLeavesAll(t, k) })
	t.Run("EachBitCounts", func(t *testing.T) { eachBitCounts(t, k) })
	t.Run("EachLengthCounts", func(t *testing.T) { eachLengthCounts(t, k) })
}

// alike: nil and an empty list are the same, and are written alike.
func alike(a, b any) bool { return fmt.Sprint(a) == fmt.Sprint(b) }

// sample is a container that may be encoded.
type sample[T any] struct {
	name string
	x    T
}

// ground makes a byte of each place, counted over all fields.
type ground func(i int) byte

func all(v byte) ground { return func(int) byte { return v } }

// rising bytes from 1 on: neighbours differ, so that none can be told for the other.
func rising(i int) byte { return byte(i + 1) }

// value whose fields have the ground's bytes and whose lists these numbers.
func (k kind[T]) value(of ground, lists ...[]uint64) T {
	var x T
	at := 0
	for _, f := range k.fields {
		b := make([]byte, f.size)
		for i := range b {
			b[i] = of(at)
			at++
		}
		f.set(&x, b)
	}
	for i, l := range lists {
		k.lists[i].put(&x, l)
	}
	return x
}

// edges are the numbers at the edges, in turn.
func edges(n int) []uint64 {
	turn := []uint64{1, 1 << 63, 1<<64 - 1, 0, 0x0807060504030201, 1 << 32, 5}
	l := make([]uint64, n)
	for i := range l {
		l[i] = turn[i%len(turn)]
	}
	return l
}

func same(n int, v uint64) []uint64 {
	l := make([]uint64, n)
	for i := range l {
		l[i] = v
	}
	return l
}

func lengths() []int { return []int{0, 1, 2, 3, 4, 5, 7, 8, 9, 16, 31, 32, 33, 62, 63, 64} }

// combos of as many lengths as the type has lists.
func (k kind[T]) combos() [][]int {
	combos := [][]int{nil}
	for range k.lists {
		var longer [][]int
		for _, c := range combos {
			for _, n := range lengths() {
				longer = append(longer, append(append([]int(nil), c...), n))
			}
		}
		combos = longer
	}
	return combos
}

func fill(c []int, with func(n int) []uint64) [][]uint64 {
	lists := make([][]uint64, len(c))
	for i, n := range c {
		lists[i] = with(n)
	}
	return lists
}

func (k kind[T]) samples() []sample[T] {
	var zero T
	samples := []sample[T]{{"zero, nil lists", zero}}
	for _, c := range k.combos() {
		samples = append(samples,
			sample[T]{fmt.Sprint("zero, lists of zeros ", c), k.value(all(0), fill(c, func(n int) []uint64 { return same(n, 0) })...)},
			sample[T]{fmt.Sprint("255, lists of 2^64-1 ", c), k.value(all(255), fill(c, func(n int) []uint64 { return same(n, 1<<64-1) })...)},
			sample[T]{fmt.Sprint("rising, lists of edges ", c), k.value(rising, fill(c, edges)...)},
		)
	}
	return append(append(samples, k.fieldSamples()...), k.chanceSamples()...)
}

// fieldSamples set each field apart.
func (k kind[T]) fieldSamples() []sample[T] {
	var samples []sample[T]
	for _, f := range k.fields {
		for _, rest := range []byte{0, 255} {
			for i, part := range f.parts() {
				x := k.value(all(rest), fill(make([]int, len(k.lists)), func(int) []uint64 { return edges(3) })...)
				f.set(&x, part)
				samples = append(samples, sample[T]{fmt.Sprintf("%s is %x, the rest %d (%d)", f.name, part, rest, i), x})
			}
		}
	}
	return samples
}

// parts are bytes that a field may have.
func (f field[T]) parts() [][]byte {
	up := make([]byte, f.size)
	for i := range up {
		up[i] = rising(i)
	}
	parts := [][]byte{make([]byte, f.size), up, bytes.Repeat([]byte{255}, f.size)}
	if f.number {
		for _, n := range []uint64{1, 1 << 63, 1 << 32} {
			parts = append(parts, eight(nil, n))
		}
	}
	return parts
}

func (k kind[T]) chanceSamples() []sample[T] {
	r := rand.New(rand.NewPCG(8, uint64(len(k.fields))))
	var samples []sample[T]
	for i := range 200 {
		lists := fill(make([]int, len(k.lists)), func(int) []uint64 {
			l := make([]uint64, r.IntN(65))
			for i := range l {
				l[i] = r.Uint64()
			}
			return l
		})
		samples = append(samples, sample[T]{fmt.Sprint("chance ", i), k.value(func(int) byte { return byte(r.Uint32()) }, lists...)})
	}
	return samples
}

// P8.1

func encodes[T any](t *testing.T, k kind[T]) {
	for _, s := range k.samples() {
		want := k.bytes(s.x)
		if got, err := k.enc(s.x); !bytes.Equal(got, want) || err != api.OK {
			t.Errorf("Enc%s, %s: %x, error %d; want %x", k.name, s.name, got, err, want)
		}
	}
}

// tooLong are containers in which one list or another, or each, is too long.
func (k kind[T]) tooLong() []sample[T] {
	var samples []sample[T]
	for i := range k.lists {
		for _, n := range []int{65, 66, 72, 127, 128, 256, 257, 1000, 1 << 16} {
			for _, rest := range []int{0, 1, 64, 65} {
				c := make([]int, len(k.lists))
				for j := range c {
					c[j] = rest
				}
				c[i] = n
				samples = append(samples,
					sample[T]{fmt.Sprint("zeros, lists of ", c), k.value(all(0), fill(c, func(n int) []uint64 { return same(n, 0) })...)},
					sample[T]{fmt.Sprint("rising, lists of ", c), k.value(rising, fill(c, edges)...)},
				)
			}
		}
	}
	return samples
}

func encRefusesLong[T any](t *testing.T, k kind[T]) {
	for _, s := range k.tooLong() {
		if got, err := k.enc(s.x); len(got) != 0 || err != api.ErrLong {
			t.Errorf("Enc%s, %s: %d bytes, error %d; want ErrLong", k.name, s.name, len(got), err)
		}
	}
}

// spoil bytes and their spare room.
func spoil(b []byte) {
	b = b[:cap(b)]
	for i := range b {
		b[i] ^= 0xa5
	}
}

// whole writes the container, and its lists with their spare room.
func (k kind[T]) whole(x *T) string {
	text := fmt.Sprint(*x)
	for _, l := range k.lists {
		switch p := l.of(x).(type) {
		case *[]uint64:
			text += fmt.Sprint((*p)[:cap(*p)])
		case *[]bool:
			text += fmt.Sprint((*p)[:cap(*p)])
		}
	}
	return text
}

// full is a container with lists that have spare room.
func (k kind[T]) full(n int) T {
	return k.value(rising, fill(make([]int, len(k.lists)), func(int) []uint64 { return edges(n) })...)
}

func encLeavesAll[T any](t *testing.T, k kind[T]) {
	for _, n := range []int{0, 1, 8, 63, 64} {
		x := k.full(n)
		want, before := k.bytes(x), k.whole(&x)
		one, _ := k.enc(x)
		other, _ := k.enc(x)
		if k.whole(&x) != before {
			t.Errorf("Enc%s changed what it was given", k.name)
		}
		spoil(one)
		if !bytes.Equal(other, want) {
			t.Errorf("Enc%s: a second answer changed with the first one", k.name)
		}
		if k.whole(&x) != before {
			t.Errorf("Enc%s: the container changed with the answer", k.name)
		}
		if third, err := k.enc(x); !bytes.Equal(third, want) || err != api.OK {
			t.Errorf("Enc%s: a later answer changed with the first one", k.name)
		}
		for _, l := range k.lists {
			l.spoil(&x)
		}
		if !bytes.Equal(other, want) {
			t.Errorf("Enc%s: the answer changed with the container", k.name)
		}
	}
	for _, s := range k.tooLong() {
		before := k.whole(&s.x)
		k.enc(s.x)
		if k.whole(&s.x) != before {
			t.Errorf("Enc%s, %s: what was refused has changed", k.name, s.name)
		}
	}
}

// P8.2

func reads[T any](t *testing.T, k kind[T]) {
	for _, s := range k.samples() {
		if got, err := k.read(k.bytes(s.x)); !alike(got, s.x) || err != api.OK {
			t.Errorf("Read%s, %s: %v, error %d; want %v", k.name, s.name, got, err, s.x)
		}
	}
}

// wantRefused: an error, and the zero value beside it.
func wantRefused[T any](t *testing.T, k kind[T], what string, b []byte, want api.Errno) {
	t.Helper()
	var none T
	if got, err := k.read(b); !alike(got, none) || err != want {
		t.Errorf("Read%s of %s: %v, error %d; want error %d", k.name, what, got, err, want)
	}
}

// wantAsByHand holds Read against the second reading of what is refused; what isn't has just these bytes.
func wantAsByHand[T any](t *testing.T, k kind[T], what string, b []byte) {
	t.Helper()
	if want := k.refuse(b); want != api.OK {
		wantRefused(t, k, what, b, want)
		return
	}
	x, err := k.read(b)
	if err != api.OK || !bytes.Equal(k.bytes(x), b) {
		t.Errorf("Read%s of %s: %v, error %d; want what has the bytes %x", k.name, what, x, err, b)
	}
}

// readsAtEachLength: no bytes, each number too few, some too many, of several fills.
func readsAtEachLength[T any](t *testing.T, k kind[T]) {
	wantRefused(t, k, "nil", nil, api.ErrSize)
	wantRefused(t, k, "no bytes", []byte{}, api.ErrSize)
	wantRefused(t, k, "no bytes with spare room", make([]byte, 0, 1000), api.ErrSize)
	for _, n := range []int{0, 1, 7, 8, 63, 64} {
		b := k.bytes(k.full(n))
		for length := range b {
			wantAsByHand(t, k, fmt.Sprintf("the first %d bytes of %d", length, len(b)), b[:length])
		}
		for more := 1; more <= 20; more++ {
			for _, v := range []byte{0, 1, 2, 255} {
				longer := append(bytes.Clone(b), bytes.Repeat([]byte{v}, more)...)
				wantAsByHand(t, k, fmt.Sprintf("%d bytes %d behind %d", more, v, len(b)), longer)
			}
		}
	}
	for _, length := range []int{229, 236, 407, 408, 409, 415, 416, 417, 464, 740, 1000, 65536, 70000} {
		for _, v := range []byte{0, 1, 2, 8, 228, 255} {
			wantAsByHand(t, k, fmt.Sprintf("%d bytes %d", length, v), bytes.Repeat([]byte{v}, length))
		}
	}
}

// readsWithEachByteChanged: also offsets, and the byte with the bit that tells a length.
func readsWithEachByteChanged[T any](t *testing.T, k kind[T]) {
	for _, n := range []int{0, 1, 7, 8, 64} {
		b := k.bytes(k.full(n))
		for at := range b {
			for _, change := range []byte{1, 2, 4, 8, 128, b[at], ^b[at]} {
				changed := bytes.Clone(b)
				changed[at] ^= change
				wantAsByHand(t, k, fmt.Sprintf("%d bytes, that at %d being %d", len(b), at, changed[at]), changed)
			}
		}
	}
}

func readsByChance[T any](t *testing.T, k kind[T]) {
	r := rand.New(rand.NewPCG(88, uint64(len(k.fields))))
	for i := range 3000 {
		b := k.bytes(k.full(r.IntN(65)))
		switch i % 3 {
		case 0:
			b = b[:r.IntN(len(b)+1)]
		case 1:
			b = append(b, bytes.Repeat([]byte{byte(r.IntN(3))}, r.IntN(600))...)
		}
		for range r.IntN(4) {
			if len(b) > 0 {
				b[r.IntN(len(b))] = byte(r.Uint32())
			}
		}
		wantAsByHand(t, k, fmt.Sprintf("chance %d: %x", i, b), b)
	}
}

func readLeavesAll[T any](t *testing.T, k kind[T]) {
	const spare = 64
	for _, n := range []int{0, 1, 8, 63, 64} {
		want := k.full(n)
		b := k.bytes(want)
		whole := append(bytes.Clone(b), bytes.Repeat([]byte{7}, spare)...)
		before := bytes.Clone(whole)
		got, err := k.read(whole[:len(b)])
		if !alike(got, want) || err != api.OK {
			t.Errorf("Read%s: %v, error %d; want %v", k.name, got, err, want)
		}
		if !bytes.Equal(whole, before) {
			t.Errorf("Read%s changed its bytes or their spare room", k.name)
		}
		spoil(whole)
		if !alike(got, want) {
			t.Errorf("Read%s: the answer changed with the bytes", k.name)
		}
	}
	for _, wrong := range [][]byte{k.bytes(k.full(3))[1:], bytes.Repeat([]byte{2}, 500)} {
		before := bytes.Clone(wrong)
		k.read(wrong)
		if !bytes.Equal(wrong, before) {
			t.Errorf("Read%s changed bytes that it refused", k.name)
		}
	}
}

// readAnswersNewMemory: a list that is answered shares nothing, its spare room neither, with the bytes, another list or another answer.
func readAnswersNewMemory[T any](t *testing.T, k kind[T]) {
	for _, n := range []int{0, 1, 8, 63, 64} {
		want := k.full(n)
		b := k.bytes(want)
		for _, l := range k.lists {
			got, _ := k.read(b)
			other, _ := k.read(b)
			l.spoil(&got)
			if !bytes.Equal(b, k.bytes(want)) || !alike(other, want) {
				t.Errorf("Read%s: the bytes or another answer changed with %s", k.name, l.name)
			}
			rest, wantRest := got, want
			l.null(&rest)
			l.null(&wantRest)
			if !alike(rest, wantRest) {
				t.Errorf("Read%s: the rest of the answer changed with %s", k.name, l.name)
			}
		}
	}
}

func thereAndBack[T any](t *testing.T, k kind[T]) {
	for _, s := range k.samples() {
		b, err := k.enc(s.x)
		if err != api.OK {
			t.Errorf("Enc%s, %s: error %d", k.name, s.name, err)
		}
		x, err := k.read(b)
		if !alike(x, s.x) || err != api.OK {
			t.Errorf("%s, %s: encoded and read again: %v, error %d; want %v", k.name, s.name, x, err, s.x)
		}
		if again, err := k.enc(x); !bytes.Equal(again, b) || err != api.OK {
			t.Errorf("%s, %s: read and encoded again: %x, error %d; want %x", k.name, s.name, again, err, b)
		}
	}
}

// P8.3

func roots[T any](t *testing.T, k kind[T]) {
	for _, s := range k.samples() {
		want := k.plain(s.x)
		if got, err := k.root(s.x); got != want || err != api.OK {
			t.Errorf("Root%s, %s: %x, error %d; want %x", k.name, s.name, got, err, want)
		}
	}
}

func rootRefusesLong[T any](t *testing.T, k kind[T]) {
	for _, s := range k.tooLong() {
		if got, err := k.root(s.x); got != (api.Root{}) || err != api.ErrLong {
			t.Errorf("Root%s, %s: %x, error %d; want ErrLong", k.name, s.name, got, err)
		}
	}
}

func rootLeavesAll[T any](t *testing.T, k kind[T]) {
	for _, n := range []int{0, 1, 8, 63, 64, 65} {
		x := k.full(n)
		before := k.whole(&x)
		one, _ := k.root(x)
		two, _ := k.root(x)
		if k.whole(&x) != before || one != two {
			t.Errorf("Root%s: asked again, another root or another container", k.name)
		}
	}
}

// eachBitCounts: each bit of each field, alone, and each bit of each list's elements is told by bytes, by what is read and by the root, and no two are told alike.
func eachBitCounts[T any](t *testing.T, k kind[T]) {
	zeros := func() T {
		return k.value(all(0), fill(make([]int, len(k.lists)), func(int) []uint64 { return same(64, 0) })...)
	}
	none, _ := k.root(zeros())
	seen := map[api.Root]string{none: "none"}
	look := func(name string, x T) {
		b, err := k.enc(x)
		if !bytes.Equal(b, k.bytes(x)) || err != api.OK {
			t.Errorf("Enc%s of %s: %x, error %d", k.name, name, b, err)
		}
		if got, err := k.read(b); !alike(got, x) || err != api.OK {
			t.Errorf("Read%s of %s: %v, error %d", k.name, name, got, err)
		}
		root, err := k.root(x)
		if other, ok := seen[root]; ok || err != api.OK {
			t.Errorf("Root%s: %s has the root of %s, error %d", k.name, name, other, err)
		}
		seen[root] = name
	}
	for _, f := range k.fields {
		for i := range 8 * f.size {
			x := zeros()
			b := make([]byte, f.size)
			b[i/8] = 1 << (i % 8)
			f.set(&x, b)
			look(fmt.Sprintf("the bit %d of %s", i, f.name), x)
		}
	}
	for _, l := range k.lists {
		bitsOfElement := []int{0, 1, 7, 8, 31, 32, 63}
		if l.bits {
			bitsOfElement = []int{0}
		}
		for i := range 64 {
			for _, bit := range bitsOfElement {
				x := zeros()
				numbers := same(64, 0)
				numbers[i] = 1 << bit
				l.put(&x, numbers)
				look(fmt.Sprintf("the bit %d of %s %d", bit, l.name, i), x)
			}
		}
	}
}

// eachLengthCounts: lists of zeros of different lengths have other bytes and another root, in each list; nil and empty ones have the same.
func eachLengthCounts[T any](t *testing.T, k kind[T]) {
	for _, l := range k.lists {
		seenRoots := map[api.Root]int{}
		seenBytes := map[string]int{}
		for n := range 65 {
			var x T
			l.put(&x, same(n, 0))
			b, _ := k.enc(x)
			root, _ := k.root(x)
			if other, ok := seenRoots[root]; ok {
				t.Errorf("Root%s: %s of %d zeros has the root of %d", k.name, l.name, n, other)
			}
			if other, ok := seenBytes[string(b)]; ok {
				t.Errorf("Enc%s: %s of %d zeros has the bytes of %d", k.name, l.name, n, other)
			}
			seenRoots[root] = n
			seenBytes[string(b)] = n
		}
		var null, empty T
		l.null(&null)
		l.put(&empty, nil)
		nullBytes, err := k.enc(null)
		emptyBytes, errEmpty := k.enc(empty)
		if !bytes.Equal(nullBytes, emptyBytes) || err != api.OK || errEmpty != api.OK {
			t.Errorf("Enc%s: %s nil and empty: %x, error %d, and %x, error %d", k.name, l.name, nullBytes, err, emptyBytes, errEmpty)
		}
		nullRoot, err := k.root(null)
		emptyRoot, errEmpty := k.root(empty)
		if nullRoot != emptyRoot || err != api.OK || errEmpty != api.OK {
			t.Errorf("Root%s: %s nil and empty: %x, error %d, and %x, error %d", k.name, l.name, nullRoot, err, emptyRoot, errEmpty)
		}
	}
}
