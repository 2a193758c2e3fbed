package sign_test

import (
	"bytes"
	"crypto/sha256"
	"encoding/binary"
	"encoding/hex"
	"fmt"
	"math"
	"math/big"
	"math/rand/v2"
	"reflect"
	"slices"
	"sync"
	"testing"

	"pharos/api"
	"pharos/sign"
	"pharos/state"
)

const top = 1<<64 - 1

// What is asked for. All states are right ones, which withFork holds.

// rootOf a number: another root for each.
func rootOf(what string, v int) api.Root { return sha256.Sum256(fmt.Append(nil, what, v)) }

// keyOf a number: another key for each.
func keyOf(v int) api.Key {
	front, back := rootOf("key", v), rootOf("key's end", v)
	return api.Key(append(front[:], back[:16]...))
}

// sigOf a number: another signature for each.
func sigOf(v int) api.Sig {
	one, two, three := rootOf("sig", v), rootOf("sig's middle", v), rootOf("sig's end", v)
	return api.Sig(slices.Concat(one[:], two[:], three[:]))
}

// keysOf so many numbers, from one on.
func keysOf(from, n int) []api.Key {
	keys := make([]api.Key, n)
	for i := range keys {
		keys[i] = keyOf(from + i)
	}
	return keys
}

// rootsOf so many numbers.
func rootsOf(what string, n int) []api.Root {
	roots := make([]api.Root, n)
	for i := range roots {
		roots[i] = rootOf(what, i)
	}
	return roots
}

// room for so many, and some spare room, so that what writes there is seen.
func room[T any](n int) []T { return make([]T, n, n+3) }

// withFork is a state with this fork and this genesis root. Its other roots are others, and its epoch is 25.
func withFork(t *testing.T, fork api.Fork, genesis api.Root) api.State {
	t.Helper()
	x := api.State{
		Genesis: 5, GenesisRoot: genesis, Slot: 103, Fork: fork, Deposits: 9,
		Validators: room[api.Validator](3), Balances: room[uint64](3),
		Previous: room[uint8](3), Current: room[uint8](3), Scores: room[uint64](3),
		History: room[api.Root](2), Votes: room[api.Eth1](1),
	}
	for i := range x.Validators {
		x.Validators[i] = api.Validator{Key: keyOf(i), Effective: 32 * api.Increment, Exit: api.Far, Withdrawable: api.Far}
		x.Balances[i] = 33 * api.Increment
	}
	for i := range 8 {
		x.BlockRoots[i], x.StateRoots[i], x.Mixes[i] = rootOf("block", i), rootOf("state", i), rootOf("mix", i)
	}
	if !state.Right(x) {
		t.Fatalf("the test's own state isn't right")
	}
	return x
}

// oldAndNew are versions that differ in each byte.
func oldAndNew(epoch uint64) api.Fork {
	return api.Fork{Previous: api.Version{1, 2, 3, 4}, Current: api.Version{5, 6, 7, 8}, Epoch: epoch}
}

func depositOf(v int, amount uint64) api.DepositData {
	return api.DepositData{Key: keyOf(v), Credentials: rootOf("credentials", v), Amount: amount, Sig: sigOf(v)}
}

// Second readings of the chapter, with the library's hash.

func plainTwo(a, b api.Root) api.Root { return sha256.Sum256(slices.Concat(a[:], b[:])) }

// chunk of at most 32 bytes.
func chunk(b []byte) api.Root {
	var c api.Root
	copy(c[:], b)
	return c
}

func plainDomain(kind int, version api.Version, root api.Root) api.Root {
	// The remainder of a division is never negative here, so that it is the lowest bits of a negative number too.
	low := new(big.Int).Mod(big.NewInt(int64(kind)), big.NewInt(1<<32)).FillBytes(make([]byte, 4))
	slices.Reverse(low)
	hash := plainTwo(chunk(version[:]), root)
	return api.Root(append(low, hash[:28]...))
}

// plainMessage: four leaves, the last of them zeros.
func plainMessage(d api.DepositData) api.Root {
	key := plainTwo(chunk(d.Key[:32]), chunk(d.Key[32:]))
	amount := chunk(binary.LittleEndian.AppendUint64(nil, d.Amount))
	return plainTwo(plainTwo(key, d.Credentials), plainTwo(amount, api.Root{}))
}

func plainQuestion(keys []api.Key, root api.Root, sig api.Sig) api.Root {
	var b []byte
	for _, key := range keys {
		b = append(b, key[:]...)
	}
	return sha256.Sum256(slices.Concat(b, root[:], sig[:]))
}

// What is wanted.

func wantDomain(t *testing.T, x api.State, kind int, epoch uint64, version api.Version) {
	t.Helper()
	if got, want := sign.Domain(x, kind, epoch), plainDomain(kind, version, x.GenesisRoot); got != want {
		t.Errorf("Domain of kind %d, epoch %d, fork %v, genesis %x: %x; want %x", kind, epoch, x.Fork, x.GenesisRoot, got, want)
	}
}

func wantMessage(t *testing.T, d api.DepositData) api.Root {
	t.Helper()
	got, want := sign.Message(d), plainMessage(d)
	if got != want {
		t.Errorf("Message of %v: %x; want %x", d, got, want)
	}
	return got
}

func wantQuestion(t *testing.T, keys []api.Key, root api.Root, sig api.Sig) api.Root {
	t.Helper()
	got, want := sign.Question(keys, root, sig), plainQuestion(keys, root, sig)
	if got != want {
		t.Errorf("Question of %d keys, root %x, sig %x: %x; want %x", len(keys), root, sig, got, want)
	}
	return got
}

func wantGood(t *testing.T, what string, q api.Root, bad []api.Root, want bool) {
	t.Helper()
	if got := sign.Good(q, bad); got != want {
		t.Errorf("Good, %s, %d bad ones: %t; want %t", what, len(bad), got, want)
	}
}

// apart holds that all answers differ from each other.
type apart map[api.Root]string

func (a apart) add(t *testing.T, what string, root api.Root) {
	t.Helper()
	if other, ok := a[root]; ok {
		t.Errorf("%s and %s have the same answer: %x", what, other, root)
	}
	a[root] = what
}

// P16.1

func TestDeposits(t *testing.T) {
	const want = "03000000f5a5fd42d16a20302798ef6ed309979b43003d2320d9f0e8ea9831a9"
	got := sign.Deposits()
	if hex.EncodeToString(got[:]) != want {
		t.Errorf("Deposits: %x; want %s", got, want)
	}
	if plain := plainDomain(3, api.Version{}, api.Root{}); got != plain {
		t.Errorf("Deposits: %x; want %x", got, plain)
	}
	if other := sign.Domain(api.State{}, api.DomainDeposit, 0); got != other {
		t.Errorf("Domain of the zero state: %x; want %x, as of Deposits", other, got)
	}
}

// TestDomainIsOfItsParts: where the bytes of the kind end, and what of the hash is left.
func TestDomainIsOfItsParts(t *testing.T) {
	x := withFork(t, oldAndNew(10), rootOf("genesis", 1))
	hash := plainTwo(api.Root{5, 6, 7, 8}, rootOf("genesis", 1))
	got := sign.Domain(x, 0x0d0c0b0a, 10)
	if !bytes.Equal(got[:4], []byte{10, 11, 12, 13}) {
		t.Errorf("the kind's bytes: %x", got[:4])
	}
	if !bytes.Equal(got[4:], hash[:28]) {
		t.Errorf("the bytes behind the kind: %x; want %x", got[4:], hash[:28])
	}
}

func TestDomainAtTheFork(t *testing.T) {
	old, now := api.Version{1, 2, 3, 4}, api.Version{5, 6, 7, 8}
	for _, c := range []struct {
		fork, epoch uint64
		want        api.Version
	}{
		{0, 0, now}, {0, 1, now}, {0, 25, now}, {0, 1 << 63, now}, {0, top, now},
		{1, 0, old}, {1, 1, now}, {1, 2, now}, {1, top, now},
		{5, 0, old}, {5, 3, old}, {5, 4, old}, {5, 5, now}, {5, 6, now}, {5, 25, now}, {5, top, now},
		{25, 24, old}, {25, 25, now}, {25, 26, now}, // that of the state's slot
		{26, 25, old}, {26, 26, now},
		{255, 254, old}, {255, 255, now}, {255, 256, now}, {256, 255, old}, {256, 256, now}, {256, 1, old},
		{1<<32 - 1, 1<<32 - 2, old}, {1<<32 - 1, 1<<32 - 1, now}, {1 << 32, 1<<32 - 1, old}, {1 << 32, 1 << 32, now}, {1 << 32, 0, old},
		{1<<63 - 1, 1<<63 - 2, old}, {1<<63 - 1, 1<<63 - 1, now}, {1<<63 - 1, 1 << 63, now},
		{1 << 63, 1<<63 - 1, old}, {1 << 63, 1 << 63, now}, {1 << 63, 1<<63 + 1, now}, {1 << 63, 0, old}, {1 << 63, top, now},
		{top - 1, top - 2, old}, {top - 1, top - 1, now}, {top - 1, top, now},
		{top, 0, old}, {top, 25, old}, {top, 1 << 63, old}, {top, top - 1, old}, {top, top, now},
	} {
		x := withFork(t, oldAndNew(c.fork), rootOf("genesis", 0))
		for _, kind := range []int{api.DomainProposer, api.DomainSync} {
			wantDomain(t, x, kind, c.epoch, c.want)
		}
	}
}

// TestDomainOfOneVersion: where both are the same, the epoch changes nothing.
func TestDomainOfOneVersion(t *testing.T) {
	same := api.Fork{Previous: api.Version{9, 8, 7, 6}, Current: api.Version{9, 8, 7, 6}, Epoch: 5}
	x := withFork(t, same, rootOf("genesis", 0))
	for _, epoch := range []uint64{0, 4, 5, 6, top} {
		wantDomain(t, x, api.DomainExit, epoch, same.Current)
	}
}

func TestDomainKinds(t *testing.T) {
	x := withFork(t, oldAndNew(5), rootOf("genesis", 0))
	named := []int{api.DomainProposer, api.DomainAttester, api.DomainRandao, api.DomainDeposit, api.DomainExit, api.DomainSync}
	low := []int{5, 6, 8, 127, 128, 255, 256, 257, 1<<16 - 1, 1 << 16, 1<<24 - 1, 1 << 24, 0x01020304, math.MaxInt32}
	great := []int{math.MaxInt32 + 1, 0xfefdfcfb, math.MaxUint32, 1<<32 | 9, 1<<40 | 10, 7<<32 | 11, math.MaxInt64 - 13}
	below := []int{-2, -3, -255, -256, -65536, math.MinInt32 + 2, math.MinInt32*2 + 14, math.MinInt64 + 15}
	seen := apart{}
	for _, kind := range slices.Concat(named, low, great, below) {
		wantDomain(t, x, kind, 4, x.Fork.Previous)
		wantDomain(t, x, kind, 5, x.Fork.Current)
		seen.add(t, fmt.Sprint("old ", kind), sign.Domain(x, kind, 4))
		seen.add(t, fmt.Sprint("new ", kind), sign.Domain(x, kind, 5))
	}
}

// TestDomainIsOfTheLowestBits: kinds that are the same in these have one domain.
func TestDomainIsOfTheLowestBits(t *testing.T) {
	x := withFork(t, oldAndNew(5), rootOf("genesis", 0))
	for _, same := range [][]int{
		{0, 1 << 32, -1 << 32, 1 << 40, 7 << 32, math.MinInt64},
		{7, 1<<32 + 7, -1<<32 + 7, 1<<62 + 7, math.MinInt64 + 7},
		{math.MaxUint32, -1, math.MaxInt64, -1<<32 - 1},
		{1 << 31, math.MinInt32, 3 << 31, math.MinInt64 + 1<<31},
	} {
		for _, kind := range same {
			wantDomain(t, x, kind, 7, x.Fork.Current)
			if got, want := sign.Domain(x, kind, 7), sign.Domain(x, same[0], 7); got != want {
				t.Errorf("Domain of kind %d: %x; want %x, as of %d", kind, got, want, same[0])
			}
		}
	}
}

// TestDomainKindAlone: kinds change the first four bytes alone.
func TestDomainKindAlone(t *testing.T) {
	x := withFork(t, oldAndNew(5), rootOf("genesis", 0))
	first := sign.Domain(x, 0, 7)
	for _, kind := range []int{1, 7, 255, 1 << 8, 1 << 16, 1 << 24, 1<<32 - 1, -1, math.MinInt64} {
		if got := sign.Domain(x, kind, 7); !bytes.Equal(got[4:], first[4:]) {
			t.Errorf("kind %d: behind its bytes %x; want %x", kind, got[4:], first[4:])
		}
	}
}

// TestDomainVersions: each bit of the version that counts, and none of the other.
func TestDomainVersions(t *testing.T) {
	seen := apart{}
	for bit := -1; bit < 32; bit++ {
		version := api.Version{0x10, 0x20, 0x30, 0x40}
		if bit >= 0 {
			version[bit/8] ^= 1 << (bit % 8)
		}
		ahead := withFork(t, api.Fork{Previous: version, Current: api.Version{9}, Epoch: 5}, rootOf("genesis", 0))
		behind := withFork(t, api.Fork{Previous: api.Version{9}, Current: version, Epoch: 5}, rootOf("genesis", 0))
		wantDomain(t, ahead, api.DomainAttester, 4, version)
		wantDomain(t, ahead, api.DomainAttester, 5, api.Version{9})
		wantDomain(t, behind, api.DomainAttester, 5, version)
		wantDomain(t, behind, api.DomainAttester, 4, api.Version{9})
		seen.add(t, fmt.Sprint("version ", version), sign.Domain(ahead, api.DomainAttester, 4))
	}
}

func TestDomainGenesisRoots(t *testing.T) {
	seen := apart{}
	for at := -1; at < 32; at++ {
		genesis := rootOf("genesis", 7)
		if at >= 0 {
			genesis[at] ^= 0x80
		}
		x := withFork(t, oldAndNew(5), genesis)
		wantDomain(t, x, api.DomainRandao, 4, x.Fork.Previous)
		wantDomain(t, x, api.DomainRandao, 5, x.Fork.Current)
		seen.add(t, fmt.Sprint("genesis changed at ", at), sign.Domain(x, api.DomainRandao, 5))
	}
	for _, genesis := range []api.Root{{}, {31: 1}, api.Root(bytes.Repeat([]byte{255}, 32))} {
		wantDomain(t, withFork(t, oldAndNew(5), genesis), api.DomainRandao, 5, api.Version{5, 6, 7, 8})
	}
}

// TestDomainOfTheForkAlone: what else stands in a state changes nothing.
func TestDomainOfTheForkAlone(t *testing.T) {
	x := withFork(t, oldAndNew(5), rootOf("genesis", 0))
	bare := api.State{Fork: x.Fork, GenesisRoot: x.GenesisRoot}
	for _, epoch := range []uint64{0, 4, 5, 24, 25, 26, top} {
		for _, kind := range []int{0, 1, 2, 3, 4, 7} {
			if got, want := sign.Domain(x, kind, epoch), sign.Domain(bare, kind, epoch); got != want {
				t.Errorf("kind %d, epoch %d: %x; want %x, as of the bare state", kind, epoch, got, want)
			}
		}
	}
}

func TestDomainByChance(t *testing.T) {
	r := rand.New(rand.NewPCG(16, 1))
	for range 2000 {
		fork := api.Fork{Epoch: r.Uint64() >> r.IntN(64)}
		binary.LittleEndian.PutUint32(fork.Previous[:], r.Uint32())
		binary.LittleEndian.PutUint32(fork.Current[:], r.Uint32())
		x := api.State{Fork: fork, GenesisRoot: rootOf("genesis", r.Int())}
		epoch := r.Uint64() >> r.IntN(64)
		version := fork.Current
		if new(big.Int).SetUint64(epoch).Cmp(new(big.Int).SetUint64(fork.Epoch)) < 0 {
			version = fork.Previous
		}
		wantDomain(t, x, int(r.Uint64()), epoch, version)
	}
}

// P16.2

func TestRoot(t *testing.T) {
	ones := api.Root(bytes.Repeat([]byte{255}, 32))
	some := append(rootsOf("object", 4), api.Root{}, api.Root{1}, api.Root{31: 1}, ones, sign.Deposits())
	seen := apart{}
	for _, object := range some {
		for _, domain := range some {
			got := sign.Root(object, domain)
			if want := plainTwo(object, domain); got != want {
				t.Errorf("Root(%x, %x): %x; want %x", object, domain, got, want)
			}
			seen.add(t, fmt.Sprintf("%x in %x", object, domain), got) // also when both change places
		}
	}
}

// TestRootOfEachBit: no bit of an object or a domain is left out.
func TestRootOfEachBit(t *testing.T) {
	object, domain := rootOf("object", 1), rootOf("domain", 1)
	seen := apart{}
	seen.add(t, "neither", sign.Root(object, domain))
	for bit := range 256 {
		other := object
		other[bit/8] ^= 1 << (bit % 8)
		seen.add(t, fmt.Sprint("object's bit ", bit), sign.Root(other, domain))
		other = domain
		other[bit/8] ^= 1 << (bit % 8)
		seen.add(t, fmt.Sprint("domain's bit ", bit), sign.Root(object, other))
	}
}

func TestMessage(t *testing.T) {
	seen := apart{}
	for i, amount := range []uint64{0, 1, 255, 256, 32 * api.Increment, 1<<32 - 1, 1 << 32, 1 << 63, top - 1, top} {
		seen.add(t, fmt.Sprint("amount ", amount), wantMessage(t, depositOf(0, amount)))
		seen.add(t, fmt.Sprint("another's amount ", amount), wantMessage(t, depositOf(i+1, amount)))
	}
	wantMessage(t, api.DepositData{})
	wantMessage(t, api.DepositData{Amount: top})
	wantMessage(t, api.DepositData{Key: api.Key(bytes.Repeat([]byte{255}, 48)), Credentials: api.Root(bytes.Repeat([]byte{255}, 32)), Amount: top})
}

func TestMessageOfEachByte(t *testing.T) {
	d := depositOf(3, 0x0102030405060708)
	seen := apart{}
	seen.add(t, "nothing changed", wantMessage(t, d))
	for at := range d.Key {
		other := d
		other.Key[at] ^= 0x81
		seen.add(t, fmt.Sprint("key at ", at), wantMessage(t, other))
	}
	for at := range d.Credentials {
		other := d
		other.Credentials[at] ^= 0x81
		seen.add(t, fmt.Sprint("credentials at ", at), wantMessage(t, other))
	}
	for bit := range 64 {
		other := d
		other.Amount ^= 1 << bit
		seen.add(t, fmt.Sprint("amount's bit ", bit), wantMessage(t, other))
	}
}

func TestMessageWithoutTheSignature(t *testing.T) {
	d := depositOf(3, 32*api.Increment)
	want := wantMessage(t, d)
	for at := range d.Sig {
		other := d
		other.Sig[at] ^= 0x81
		if got := sign.Message(other); got != want {
			t.Errorf("the signature's byte %d counts: %x; want %x", at, got, want)
		}
	}
	d.Sig = api.Sig{}
	if got := sign.Message(d); got != want {
		t.Errorf("without a signature: %x; want %x", got, want)
	}
}

// P16.3

// keyCounts: 48 bytes each, and 128 behind them, so that each fourth count fills the last block of the sum just so.
func keyCounts() []int {
	counts := []int{64, 65, 100, 1000, 4096}
	for n := range 34 {
		counts = append(counts, n)
	}
	return counts
}

func TestQuestion(t *testing.T) {
	seen := apart{}
	for _, n := range keyCounts() {
		for k := range 3 {
			seen.add(t, fmt.Sprint(n, " keys, the others ", k), wantQuestion(t, keysOf(k, n), rootOf("signed", k), sigOf(k)))
		}
	}
	wantQuestion(t, nil, api.Root{}, api.Sig{})
	wantQuestion(t, []api.Key{{}}, api.Root{}, api.Sig{})
	wantQuestion(t, make([]api.Key, 4), api.Root{}, api.Sig{})
}

func TestQuestionOfNoKey(t *testing.T) {
	root, sig := rootOf("signed", 1), sigOf(1)
	want := api.Root(sha256.Sum256(slices.Concat(root[:], sig[:])))
	for _, none := range [][]api.Key{nil, {}, keysOf(0, 5)[:0], keysOf(0, 5)[5:]} {
		if got := sign.Question(none, root, sig); got != want {
			t.Errorf("no key: %x; want %x", got, want)
		}
	}
}

func TestQuestionOrder(t *testing.T) {
	root, sig := rootOf("signed", 1), sigOf(1)
	a, b, c := keyOf(1), keyOf(2), keyOf(3)
	seen := apart{}
	for _, keys := range [][]api.Key{
		{a}, {b}, {c}, {a, a}, {a, b}, {b, a}, {b, b}, {a, a, a}, {a, a, b}, {a, b, a}, {b, a, a},
		{a, b, c}, {a, c, b}, {b, a, c}, {b, c, a}, {c, a, b}, {c, b, a}, {a, b, c, a}, {a, a, b, c},
	} {
		seen.add(t, fmt.Sprintf("%x", keys), wantQuestion(t, keys, root, sig))
	}
}

func TestQuestionOfEachByte(t *testing.T) {
	for _, n := range []int{0, 1, 2, 4, 5} {
		keys, root, sig := keysOf(0, n), rootOf("signed", 1), sigOf(1)
		seen := apart{}
		seen.add(t, "nothing changed", wantQuestion(t, keys, root, sig))
		for at := range root {
			other := root
			other[at] ^= 0x81
			seen.add(t, fmt.Sprint("root at ", at), wantQuestion(t, keys, other, sig))
		}
		for at := range sig {
			other := sig
			other[at] ^= 0x81
			seen.add(t, fmt.Sprint("signature at ", at), wantQuestion(t, keys, root, other))
		}
		for at := range 48 * n {
			other := slices.Clone(keys)
			other[at/48][at%48] ^= 0x81
			seen.add(t, fmt.Sprint("keys at ", at), wantQuestion(t, other, root, sig))
		}
	}
}

func TestGoodOfNone(t *testing.T) {
	q := rootOf("question", 0)
	for _, asked := range []api.Root{q, {}} {
		wantGood(t, "nil", asked, nil, true)
		wantGood(t, "empty", asked, []api.Root{}, true)
		wantGood(t, "empty with q behind the end", asked, []api.Root{asked, asked}[:0], true)
	}
	wantGood(t, "q alone", q, []api.Root{q}, false)
	wantGood(t, "a zero question", api.Root{}, []api.Root{{}}, false)
	wantGood(t, "a zero question", api.Root{}, []api.Root{q}, true)
	wantGood(t, "zeros", q, []api.Root{{}}, true)
}

func TestGoodAtEachPlace(t *testing.T) {
	q := rootOf("question", 0)
	for _, n := range []int{1, 2, 3, 4, 5, 8, 17, 33} {
		others := rootsOf("another", n)
		wantGood(t, "q isn't there", q, others, true)
		for at := range others {
			bad := slices.Clone(others)
			bad[at] = q
			wantGood(t, fmt.Sprint("q at ", at), q, bad, false)
			bad[n-1] = q
			wantGood(t, fmt.Sprint("q at ", at, " and last"), q, bad, false)
			wantGood(t, "an other one that is there no more", others[at], bad, true)
			wantGood(t, "behind the end", q, append(slices.Clone(others[:at]), q)[:at], true)
		}
	}
}

func TestGoodOfLongLists(t *testing.T) {
	const n = 100000
	q := rootOf("question", 0)
	bad := make([]api.Root, n)
	for i := range bad {
		binary.LittleEndian.PutUint64(bad[i][:], uint64(i)+1)
	}
	wantGood(t, "q isn't there", q, bad, true)
	for _, at := range []int{0, 1, n / 2, n - 2, n - 1} {
		had := bad[at]
		bad[at] = q
		wantGood(t, fmt.Sprint("q at ", at), q, bad, false)
		bad[at] = had
	}
	wantGood(t, "q is all of them", q, slices.Repeat([]api.Root{q}, n), false)
}

// TestGoodOfNearOnes: one that differs from q in a bit isn't q.
func TestGoodOfNearOnes(t *testing.T) {
	q := rootOf("question", 0)
	var near []api.Root
	for bit := range 256 {
		other := q
		other[bit/8] ^= 1 << (bit % 8)
		near = append(near, other)
		wantGood(t, fmt.Sprint("one that differs in bit ", bit), q, []api.Root{other}, true)
		wantGood(t, fmt.Sprint("one that differs in bit ", bit, ", and q"), q, []api.Root{other, q}, false)
	}
	wantGood(t, "all that differ in a bit", q, near, true)
	slices.Reverse(q[:])
	wantGood(t, "q from its end on", q, []api.Root{rootOf("question", 0)}, true)
}

// TestGoodOfUnsortedOnes: bad ones needn't be in order.
func TestGoodOfUnsortedOnes(t *testing.T) {
	bad := []api.Root{{9}, {3}, {7}, {1}, {8}, {0, 5}, {3}}
	for _, q := range bad {
		wantGood(t, "unsorted", q, bad, false)
	}
	for _, q := range []api.Root{{}, {2}, {4}, {5}, {6}, {10}, {0, 0, 5}, {31: 9}} {
		wantGood(t, "unsorted", q, bad, true)
	}
}

// TestQuestionsOfSigners: a question is bad for just those keys, that root and that signature.
func TestQuestionsOfSigners(t *testing.T) {
	d := depositOf(1, 32*api.Increment)
	root := sign.Root(sign.Message(d), sign.Deposits())
	bad := []api.Root{sign.Question([]api.Key{d.Key}, root, d.Sig)}
	wantGood(t, "the same", sign.Question([]api.Key{keyOf(1)}, root, sigOf(1)), bad, false)
	wantGood(t, "another key", sign.Question([]api.Key{keyOf(2)}, root, d.Sig), bad, true)
	wantGood(t, "another domain", sign.Question([]api.Key{d.Key}, sign.Root(sign.Message(d), api.Root{}), d.Sig), bad, true)
	wantGood(t, "another signature", sign.Question([]api.Key{d.Key}, root, sigOf(2)), bad, true)
}

// What is handed in stays.

// whole state as text, with the room behind its lists' ends.
func whole(x *api.State) []byte {
	var b []byte
	v := reflect.ValueOf(x).Elem()
	for i := range v.NumField() {
		f := v.Field(i)
		if f.Kind() == reflect.Slice {
			f = f.Slice3(0, f.Cap(), f.Cap())
		}
		b = fmt.Append(b, f.Interface())
	}
	return b
}

func TestStateStays(t *testing.T) {
	x := withFork(t, oldAndNew(5), rootOf("genesis", 0))
	before := whole(&x)
	for _, epoch := range []uint64{4, 5} {
		first := sign.Domain(x, 1, epoch)
		if second := sign.Domain(x, 1, epoch); first != second {
			t.Errorf("asked again, another domain: %x, %x", first, second)
		}
	}
	if !bytes.Equal(whole(&x), before) {
		t.Errorf("the state was changed, or its room")
	}
}

func TestKeysStay(t *testing.T) {
	root, sig := rootOf("signed", 1), sigOf(1)
	for n := range 12 {
		all := keysOf(0, 14)
		before := slices.Clone(all)
		want := plainQuestion(before[1:1+n], root, sig)
		for range 2 {
			if got := sign.Question(all[1:1+n], root, sig); got != want {
				t.Errorf("Question of %d keys with room behind: %x; want %x", n, got, want)
			}
		}
		if !slices.Equal(all, before) {
			t.Errorf("Question changed %d keys, or their room", n)
		}
	}
}

func TestBadOnesStay(t *testing.T) {
	for n := range 12 {
		all := rootsOf("question", 14)
		before := slices.Clone(all)
		for i, q := range before {
			wantGood(t, fmt.Sprint("from 1 on, with room behind; asked for ", i), q, all[1:1+n], i < 1 || i > n)
		}
		if !slices.Equal(all, before) {
			t.Errorf("Good changed %d bad ones, or their room", n)
		}
	}
}

// TestNothingIsKept: what its owner changes between two calls counts for the second.
func TestNothingIsKept(t *testing.T) {
	keys, bad := keysOf(0, 3), rootsOf("question", 3)
	first := wantQuestion(t, keys, rootOf("signed", 0), sigOf(0))
	keys[1] = keyOf(9)
	if second := wantQuestion(t, keys, rootOf("signed", 0), sigOf(0)); first == second {
		t.Errorf("a key was changed, and the question is the same")
	}
	q := bad[1]
	wantGood(t, "there", q, bad, false)
	bad[1] = api.Root{}
	wantGood(t, "no more there", q, bad, true)
	x := withFork(t, oldAndNew(5), rootOf("genesis", 0))
	wantDomain(t, x, 1, 5, api.Version{5, 6, 7, 8})
	x.Fork.Epoch, x.GenesisRoot = 6, rootOf("genesis", 1)
	wantDomain(t, x, 1, 5, api.Version{1, 2, 3, 4})
	deposits := sign.Deposits()
	deposits[0] = 9
	if sign.Deposits() != plainDomain(3, api.Version{}, api.Root{}) {
		t.Errorf("Deposits is another, once an answer was changed by the caller")
	}
}

// Nothing is kept from call to call, and calls side by side don't meet.
func TestCallsSideBySide(t *testing.T) {
	x := withFork(t, oldAndNew(5), rootOf("genesis", 0))
	keys := keysOf(0, 20)
	var wait sync.WaitGroup
	for i := range 32 {
		wait.Go(func() {
			wantDomain(t, x, i, uint64(i%5), api.Version{1, 2, 3, 4})
			q := wantQuestion(t, keys[:i%20], rootOf("signed", i), sigOf(i))
			wantGood(t, "side by side", q, []api.Root{{}, q}, false)
			wantMessage(t, depositOf(i, uint64(i)))
			if sign.Deposits() != plainDomain(3, api.Version{}, api.Root{}) {
				t.Errorf("Deposits is another")
			}
		})
	}
	wait.Wait()
}
