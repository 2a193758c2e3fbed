package small_test

import (
	"bytes"
	"encoding/hex"
	"fmt"
	"math/rand/v2"
	"strings"
	"testing"

	"pharos/api"
	"pharos/sha"
	"pharos/small"
)

func TestFork(t *testing.T)          { hold(t, forks()) }
func TestCheckpoint(t *testing.T)    { hold(t, checkpoints()) }
func TestValidator(t *testing.T)     { hold(t, validators()) }
func TestData(t *testing.T)          { hold(t, datas()) }
func TestEth1(t *testing.T)          { hold(t, eth1s()) }
func TestHeader(t *testing.T)        { hold(t, headers()) }
func TestSignedHeader(t *testing.T)  { hold(t, signedHeaders()) }
func TestDepositData(t *testing.T)   { hold(t, depositDatas()) }
func TestExit(t *testing.T)          { hold(t, exits()) }
func TestSignedExit(t *testing.T)    { hold(t, signedExits()) }
func TestSyncAggregate(t *testing.T) { hold(t, syncAggregates()) }
func TestCommittee(t *testing.T)     { hold(t, committees()) }

// hold the three promises for one type.
func hold[T comparable](t *testing.T, k kind[T]) {
	t.Run("Table", func(t *testing.T) { tableIsWhole(t, k) })
	t.Run("Enc", func(t *testing.T) { encodes(t, k) })
	t.Run("EncAnswersNewMemory", func(t *testing.T) { encAnswersNewMemory(t, k) })
	t.Run("Read", func(t *testing.T) { reads(t, k) })
	t.Run("ReadRefusesLengths", func(t *testing.T) { refusesLengths(t, k) })
	t.Run("ReadRefusesForms", func(t *testing.T) { refusesForms(t, k) })
	t.Run("ReadLeavesAndKeepsNothing", func(t *testing.T) { readLeavesBytes(t, k) })
	t.Run("ThereAndBack", func(t *testing.T) { thereAndBack(t, k) })
	t.Run("Root", func(t *testing.T) { roots(t, k) })
	t.Run("EachBitCounts", func(t *testing.T) { eachBitCounts(t, k) })
}

// tableIsWhole: the fields of the tests' own table leave no byte out and share none.
func tableIsWhole[T comparable](t *testing.T, k kind[T]) {
	at := 0
	for _, f := range k.fields {
		if f.at != at {
			t.Errorf("%s begins at %d; the one ahead of it ends at %d", f.name, f.at, at)
		}
		at = f.at + f.size
	}
	if at != k.size {
		t.Errorf("the fields have %d bytes of %d", at, k.size)
	}
}

// mended makes bytes such as may be read: those of bools 0 or 1.
func (k kind[T]) mended(b []byte) []byte {
	for _, f := range k.fields {
		if f.sort == "bool" {
			b[f.at] &= 1
		}
	}
	return b
}

// rising bytes from 1 on: neighbours differ, so that none can be told for the other.
func rising(n int) []byte {
	b := make([]byte, n)
	for i := range b {
		b[i] = byte(i + 1)
	}
	return b
}

func chance(n int, r *rand.Rand) []byte {
	b := make([]byte, n)
	for i := range b {
		b[i] = byte(r.Uint32())
	}
	return b
}

// eightBytes of the numbers at the edges, the lowest first.
func eightBytes() [][]byte {
	return [][]byte{
		{0, 0, 0, 0, 0, 0, 0, 0},
		{1, 0, 0, 0, 0, 0, 0, 0},
		{0, 0, 0, 0, 0, 0, 0, 128},
		{255, 255, 255, 255, 255, 255, 255, 255},
		{1, 2, 3, 4, 5, 6, 7, 8},
		{0, 0, 0, 0, 1, 0, 0, 0},
	}
}

// sample bytes of a type, each of which may be read.
func (k kind[T]) samples() map[string][]byte {
	all := map[string][]byte{
		"zero":   make([]byte, k.size),
		"255":    k.mended(bytes.Repeat([]byte{255}, k.size)),
		"rising": k.mended(rising(k.size)),
	}
	for _, f := range k.fields {
		for _, ground := range []byte{0, 255} {
			for i, part := range f.parts() {
				b := k.mended(bytes.Repeat([]byte{ground}, k.size))
				copy(b[f.at:], part)
				all[fmt.Sprintf("%s is %x, the rest %d (%d)", f.name, part, ground, i)] = b
			}
		}
	}
	r := rand.New(rand.NewPCG(7, uint64(k.size)))
	for i := range 200 {
		all[fmt.Sprint("chance ", i)] = k.mended(chance(k.size, r))
	}
	return all
}

// parts are bytes that a field may have.
func (f field[T]) parts() [][]byte {
	switch f.sort {
	case "number":
		return eightBytes()
	case "bool":
		return [][]byte{{0}, {1}}
	case "bits":
		var all [][]byte
		for i := range 256 {
			all = append(all, []byte{byte(i)})
		}
		return all
	}
	return [][]byte{make([]byte, f.size), rising(f.size), bytes.Repeat([]byte{255}, f.size)}
}

// P7.1

func encodes[T comparable](t *testing.T, k kind[T]) {
	for name, b := range k.samples() {
		if got := k.enc(k.value(b)); !bytes.Equal(got, b) {
			t.Errorf("Enc%s, %s: %x; want %x", k.name, name, got, b)
		}
	}
}

func encAnswersNewMemory[T comparable](t *testing.T, k kind[T]) {
	want := k.mended(rising(k.size))
	x := k.value(want)
	before := x
	one, two := k.enc(x), k.enc(x)
	spoil(one)
	if !bytes.Equal(two, want) {
		t.Errorf("Enc%s: a second answer changed with the first one", k.name)
	}
	if x != before {
		t.Errorf("Enc%s: the container changed with the answer", k.name)
	}
	if three := k.enc(x); !bytes.Equal(three, want) {
		t.Errorf("Enc%s: a later answer changed with the first one", k.name)
	}
}

// spoil bytes and their spare room.
func spoil(b []byte) {
	b = b[:cap(b)]
	for i := range b {
		b[i] ^= 0xa5
	}
}

// P7.2

func reads[T comparable](t *testing.T, k kind[T]) {
	for name, b := range k.samples() {
		if got, err := k.read(b); got != k.value(b) || err != api.OK {
			t.Errorf("Read%s, %s: %v, error %d; want %v", k.name, name, got, err, k.value(b))
		}
	}
}

// wantRefused: an error, and the zero value beside it.
func wantRefused[T comparable](t *testing.T, k kind[T], what string, b []byte, want api.Errno) {
	t.Helper()
	var none T
	if got, err := k.read(b); got != none || err != want {
		t.Errorf("Read%s of %s: %v, error %d; want error %d", k.name, what, got, err, want)
	}
}

// sizes of all types.
func sizes() []int { return []int{16, 40, 121, 128, 72, 112, 208, 184, 16, 112, 97, 432} }

func refusesLengths[T comparable](t *testing.T, k kind[T]) {
	wantRefused(t, k, "nil", nil, api.ErrSize)
	wantRefused(t, k, "no bytes", []byte{}, api.ErrSize)
	lengths := append(sizes(), 1, k.size-2, k.size-1, k.size+1, k.size+2, 2*k.size, 1000, 65536, 65537)
	for _, n := range lengths {
		if n == k.size {
			continue
		}
		// Of bytes of 2 and 255 bools have no form either: ErrSize stands ahead of it.
		for _, fill := range []byte{0, 1, 2, 128, 255} {
			b := bytes.Repeat([]byte{fill}, n)
			wantRefused(t, k, fmt.Sprintf("%d bytes %d", n, fill), b, api.ErrSize)
		}
		// Spare room doesn't count.
		wantRefused(t, k, fmt.Sprintf("%d bytes with spare room", n), make([]byte, n, n+k.size), api.ErrSize)
	}
}

func refusesForms[T comparable](t *testing.T, k kind[T]) {
	for _, f := range k.fields {
		if f.sort != "bool" {
			continue
		}
		for v := 2; v < 256; v++ {
			for name, b := range map[string][]byte{"zeros": make([]byte, k.size), "rising": rising(k.size)} {
				b[f.at] = byte(v)
				wantRefused(t, k, fmt.Sprintf("%s with %s %d", name, f.name, v), b, api.ErrForm)
				wantRefused(t, k, fmt.Sprintf("%s with %s %d, one too few", name, f.name, v), b[:k.size-1], api.ErrSize)
				wantRefused(t, k, fmt.Sprintf("%s with %s %d, one too many", name, f.name, v), append(b, 0), api.ErrSize)
			}
		}
	}
}

func readLeavesBytes[T comparable](t *testing.T, k kind[T]) {
	const spare = 64
	whole := append(k.mended(rising(k.size)), rising(spare)...)
	before := bytes.Clone(whole)
	want := k.value(whole)
	got, err := k.read(whole[:k.size])
	if got != want || err != api.OK {
		t.Errorf("Read%s: %v, error %d; want %v", k.name, got, err, want)
	}
	if !bytes.Equal(whole, before) {
		t.Errorf("Read%s changed its bytes or their spare room", k.name)
	}
	spoil(whole)
	if got != want {
		t.Errorf("Read%s: the answer changed with the bytes", k.name)
	}
	for _, wrong := range [][]byte{rising(k.size + 1), bytes.Repeat([]byte{2}, k.size)} {
		before := bytes.Clone(wrong)
		k.read(wrong)
		if !bytes.Equal(wrong, before) {
			t.Errorf("Read%s changed bytes that it read or refused", k.name)
		}
	}
}

func thereAndBack[T comparable](t *testing.T, k kind[T]) {
	for name, b := range k.samples() {
		x, err := k.read(b)
		if again := k.enc(x); err != api.OK || !bytes.Equal(again, b) {
			t.Errorf("%s, %s: read, error %d, and encoded again: %x; want %x", k.name, name, err, again, b)
		}
		x = k.value(b)
		if again, err := k.read(k.enc(x)); again != x || err != api.OK {
			t.Errorf("%s, %s: encoded and read again: %v, error %d; want %v", k.name, name, again, err, x)
		}
	}
}

// P7.3

func roots[T comparable](t *testing.T, k kind[T]) {
	for name, b := range k.samples() {
		x := k.value(b)
		before := x
		got := k.root(x)
		if want := k.plain(x); got != want {
			t.Errorf("Root%s, %s: %x; want %x", k.name, name, got, want)
		}
		if x != before || k.root(x) != got {
			t.Errorf("Root%s, %s: asked again, another root or another container", k.name, name)
		}
	}
}

// eachBitCounts: each bit that may be set, alone, is told by bytes, by what is read and by the root, and no two are told alike.
func eachBitCounts[T comparable](t *testing.T, k kind[T]) {
	seen := map[api.Root]string{k.root(k.value(make([]byte, k.size))): "none"}
	for _, f := range k.fields {
		count := 8 * f.size
		if f.sort == "bool" {
			count = 1
		}
		for i := range count {
			name := fmt.Sprintf("the bit %d of %s", i, f.name)
			b := make([]byte, k.size)
			b[f.at+i/8] = 1 << (i % 8)
			x := k.value(b)
			if got := k.enc(x); !bytes.Equal(got, b) {
				t.Errorf("Enc%s of %s: %x", k.name, name, got)
			}
			if got, err := k.read(b); got != x || err != api.OK {
				t.Errorf("Read%s of %s: %v, error %d", k.name, name, got, err)
			}
			root := k.root(x)
			if other, ok := seen[root]; ok {
				t.Errorf("Root%s: %s has the root of %s", k.name, name, other)
			}
			seen[root] = name
		}
	}
}

// The chapter's examples, and answers that were reckoned apart from the program.

func text(t *testing.T, s string) []byte {
	t.Helper()
	b, err := hex.DecodeString(strings.ReplaceAll(s, " ", ""))
	if err != nil {
		t.Fatal(err)
	}
	return b
}

func TestExamples(t *testing.T) {
	x := api.Exit{Epoch: 1, Validator: 2}
	b := text(t, "01 00 00 00 00 00 00 00 02 00 00 00 00 00 00 00")
	if got := small.EncExit(x); !bytes.Equal(got, b) {
		t.Errorf("EncExit: %x", got)
	}
	if got, err := small.ReadExit(b); got != x || err != api.OK {
		t.Errorf("ReadExit: %v, error %d", got, err)
	}
	if got := small.RootExit(x); got != sha.Two(api.Root{1}, api.Root{2}) {
		t.Errorf("RootExit: %x", got)
	}
	if got, err := small.ReadFork(make([]byte, 15)); got != (api.Fork{}) || err != api.ErrSize {
		t.Errorf("ReadFork of 15 bytes: %v, error %d", got, err)
	}
	if got, err := small.ReadValidator(bytes.Repeat([]byte{2}, 121)); got != (api.Validator{}) || err != api.ErrForm {
		t.Errorf("ReadValidator of 121 bytes 2: %v, error %d", got, err)
	}
}

// TestKnownBytes: containers that are written out field by field, without the table.
func TestKnownBytes(t *testing.T) {
	root := func(v byte) api.Root { return api.Root(bytes.Repeat([]byte{v}, 32)) }
	key := func(v byte) api.Key { return api.Key(bytes.Repeat([]byte{v}, 48)) }
	many := func(v byte, n int) string { return strings.Repeat(fmt.Sprintf("%02x", v), n) }
	sig := api.Sig(bytes.Repeat([]byte{9}, 96))
	for _, c := range []struct {
		name string
		got  []byte
		want string
	}{
		{"Fork", small.EncFork(api.Fork{Previous: api.Version{1, 2, 3, 4}, Current: api.Version{5, 6, 7, 8}, Epoch: 258}), "01020304 05060708 0201000000000000"},
		{"Checkpoint", small.EncCheckpoint(api.Checkpoint{Epoch: 1 << 63, Root: root(3)}), "0000000000000080" + many(3, 32)},
		{"Validator", small.EncValidator(api.Validator{Key: key(1), Credentials: root(2), Effective: 3, Slashed: true, Eligible: 4, Activation: 5, Exit: 6, Withdrawable: api.Far}), many(1, 48) + many(2, 32) + "0300000000000000 01 0400000000000000 0500000000000000 0600000000000000 ffffffffffffffff"},
		{"Data", small.EncData(api.Data{Slot: 1, Index: 2, Block: root(3), Source: api.Checkpoint{Epoch: 4, Root: root(5)}, Target: api.Checkpoint{Epoch: 6, Root: root(7)}}), "0100000000000000 0200000000000000" + many(3, 32) + "0400000000000000" + many(5, 32) + "0600000000000000" + many(7, 32)},
		{"Eth1", small.EncEth1(api.Eth1{Deposits: root(1), Count: 2, Block: root(3)}), many(1, 32) + "0200000000000000" + many(3, 32)},
		{"Header", small.EncHeader(api.Header{Slot: 1, Proposer: 2, Parent: root(3), State: root(4), Body: root(5)}), "0100000000000000 0200000000000000" + many(3, 32) + many(4, 32) + many(5, 32)},
		{"SignedHeader", small.EncSignedHeader(api.SignedHeader{Header: api.Header{Slot: 1, Proposer: 2, Parent: root(3), State: root(4), Body: root(5)}, Sig: sig}), "0100000000000000 0200000000000000" + many(3, 32) + many(4, 32) + many(5, 32) + many(9, 96)},
		{"DepositData", small.EncDepositData(api.DepositData{Key: key(1), Credentials: root(2), Amount: 3, Sig: sig}), many(1, 48) + many(2, 32) + "0300000000000000" + many(9, 96)},
		{"SignedExit", small.EncSignedExit(api.SignedExit{Exit: api.Exit{Epoch: 1, Validator: 2}, Sig: sig}), "0100000000000000 0200000000000000" + many(9, 96)},
		{"SyncAggregate", small.EncSyncAggregate(api.SyncAggregate{Bits: [8]bool{true, false, true, false, false, false, false, true}, Sig: sig}), "85" + many(9, 96)},
		{"Committee", small.EncCommittee(api.Committee{Keys: [8]api.Key{key(1), key(2), key(3), key(4), key(5), key(6), key(7), key(8)}, Sum: key(9)}), many(1, 48) + many(2, 48) + many(3, 48) + many(4, 48) + many(5, 48) + many(6, 48) + many(7, 48) + many(8, 48) + many(9, 48)},
	} {
		if want := text(t, c.want); !bytes.Equal(c.got, want) {
			t.Errorf("Enc%s: %x; want %x", c.name, c.got, want)
		}
	}
}

// knownRoot holds the roots of a container with the bytes 1, 2, 3 and so on (a bool 1) and of the zero one.
func knownRoot[T comparable](t *testing.T, k kind[T], ofRising, ofZero string) {
	t.Helper()
	var zero T
	if got := k.root(zero); got != api.Root(text(t, ofZero)) {
		t.Errorf("Root%s of the zero value: %x; want %s", k.name, got, ofZero)
	}
	if got := k.root(k.value(k.mended(rising(k.size)))); got != api.Root(text(t, ofRising)) {
		t.Errorf("Root%s of rising bytes: %x; want %s", k.name, got, ofRising)
	}
}

func TestKnownRoots(t *testing.T) {
	knownRoot(t, forks(), "fc3dc993f9d561af6bb8630ea5600fefe3e505f299e135784e7e27b7c92c36a1", "db56114e00fdd4c1f85c892bf35ac9a89289aaecb1ebd0a96cde606a748b5d71")
	knownRoot(t, checkpoints(), "7b06b694bff779b029510cb964b5686e69b2511bf3484a32302f6bf36e21f168", "f5a5fd42d16a20302798ef6ed309979b43003d2320d9f0e8ea9831a92759fb4b")
	knownRoot(t, validators(), "208032255428834a0c17f146dfb4a6edc9fe9f5e8dc135e0572a8a98d7ceeaf2", "fa324a462bcb0f10c24c9e17c326a4e0ebad204feced523eccaf346c686f06ee")
	knownRoot(t, datas(), "bf5cd69d0117bbf6b485d882fb3bf481c17d4573c284b7442b42f7b00f370fe9", "01f278ee83d4e438cf8f563ce108974d64c029a20280ab8eca07741df7ee5290")
	knownRoot(t, eth1s(), "7396374174d12c1844d34bfed61d60f47c42fe7fa5f1abcdf9c871e480b46f2c", "db56114e00fdd4c1f85c892bf35ac9a89289aaecb1ebd0a96cde606a748b5d71")
	knownRoot(t, headers(), "395af226ea6d49fdfb36934de353c791cae5ec5383954ef8f6c8da5d604d4a6f", "c78009fdf07fc56a11f122370658a353aaa542ed63e44c4bc15ff4cd105ab33c")
	knownRoot(t, signedHeaders(), "1f8be82ca19b54cdb6ab73c6ba134a4bffafade4450f1168bb8118dca9986402", "75fbdb83b1dfa7d5cace569fb811348e77014d7ab517818a771c1a61d3303d83")
	knownRoot(t, depositDatas(), "39c4a30fb27b7f87156807b9626a66bc794bccb32ceb60acefca2f7264243c28", "7d3bfa54172d8642a6c081084ce35542555a2998f48c5c9cd17f2d7a0754f3eb")
	knownRoot(t, exits(), "a79d8c895bc502bae1bdc0dac1e8ce5730d3f720ce10efe41b6bd201cf1a3fab", "f5a5fd42d16a20302798ef6ed309979b43003d2320d9f0e8ea9831a92759fb4b")
	knownRoot(t, signedExits(), "16c140408ca6bc7e7063b0f4d246ccd863c62e78d69b9dc122f6ea05f4924666", "42b052541dce45557d83d34634a45a56d216d4375e5a9584f6445ce4e63324af")
	knownRoot(t, syncAggregates(), "3552f31b103ba6bae2b776e494b1baf18e3dd33af4eb42065138907637b91cc6", "b11b8bcf59425d6c99019cca1d2c2e47b51a2f74917a67ad132274f43e13ec43")
	knownRoot(t, committees(), "89e54c6707d01162b03ee7329a947c9f8276d40e1f2bd3a456b76fe1db7ea3ac", "21a3ceeacda8cfacf6c3265fdaece99879e5e655d908a41c74c6d640f06fc778")
}

// crossed reads the bytes of one type as another one's: ErrSize, but where both have one length and all bytes say something.
func crossed[A, B comparable](t *testing.T, a kind[A], b kind[B]) {
	t.Helper()
	bytesOfA := a.enc(a.value(a.mended(rising(a.size))))
	if a.size != b.size {
		wantRefused(t, b, "the bytes of "+a.name, bytesOfA, api.ErrSize)
		return
	}
	if got, err := b.read(bytesOfA); got != b.value(bytesOfA) || err != api.OK {
		t.Errorf("Read%s of the bytes of %s: %v, error %d", b.name, a.name, got, err)
	}
}

// crossedByAll reads the bytes of each type as this one's.
func crossedByAll[T comparable](t *testing.T, k kind[T]) {
	t.Helper()
	crossed(t, forks(), k)
	crossed(t, checkpoints(), k)
	crossed(t, validators(), k)
	crossed(t, datas(), k)
	crossed(t, eth1s(), k)
	crossed(t, headers(), k)
	crossed(t, signedHeaders(), k)
	crossed(t, depositDatas(), k)
	crossed(t, exits(), k)
	crossed(t, signedExits(), k)
	crossed(t, syncAggregates(), k)
	crossed(t, committees(), k)
}

func TestBytesOfAnotherType(t *testing.T) {
	crossedByAll(t, forks())
	crossedByAll(t, checkpoints())
	crossedByAll(t, validators())
	crossedByAll(t, datas())
	crossedByAll(t, eth1s())
	crossedByAll(t, headers())
	crossedByAll(t, signedHeaders())
	crossedByAll(t, depositDatas())
	crossedByAll(t, exits())
	crossedByAll(t, signedExits())
	crossedByAll(t, syncAggregates())
	crossedByAll(t, committees())
}
