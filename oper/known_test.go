package oper_test

import (
	"bytes"
	"encoding/binary"
	"encoding/hex"
	"fmt"
	"slices"
	"strings"
	"testing"

	"pharos/api"
	"pharos/oper"
)

// The chapter's examples, and answers that were reckoned apart from the program.

func text(t *testing.T, s string) []byte {
	t.Helper()
	b, err := hex.DecodeString(strings.ReplaceAll(s, " ", ""))
	if err != nil {
		t.Fatal(err)
	}
	return b
}

func TestExamples(t *testing.T) {
	five := api.Indexed{Who: []uint64{5}}
	want := slices.Concat([]byte{0xe4, 0, 0, 0}, make([]byte, 224), []byte{5, 0, 0, 0, 0, 0, 0, 0})
	if got, err := oper.EncIndexed(five); !bytes.Equal(got, want) || err != api.OK {
		t.Errorf("EncIndexed of Who (5): %x, error %d", got, err)
	}
	if got, err := oper.ReadIndexed(want); !alike(got, five) || err != api.OK {
		t.Errorf("ReadIndexed of it: %v, error %d", got, err)
	}
	if got, err := oper.EncIndexed(api.Indexed{Who: make([]uint64, 65)}); len(got) != 0 || err != api.ErrLong {
		t.Errorf("EncIndexed of 65 in Who: %x, error %d", got, err)
	}
	want = slices.Concat([]byte{0xe4, 0, 0, 0}, make([]byte, 224), []byte{1})
	if got, err := oper.EncAttest(api.Attest{}); len(got) != 229 || !bytes.Equal(got, want) || err != api.OK {
		t.Errorf("EncAttest of no bits: %x, error %d", got, err)
	}
	if got, err := oper.ReadAttest(want); !alike(got, api.Attest{}) || err != api.OK {
		t.Errorf("ReadAttest of it: %v, error %d", got, err)
	}
}

// Containers that are written out field by field, and their bytes.

func root(v byte) api.Root { return api.Root(bytes.Repeat([]byte{v}, 32)) }

func sig(v byte) api.Sig { return api.Sig(bytes.Repeat([]byte{v}, 96)) }

func many(v byte, n int) string { return strings.Repeat(fmt.Sprintf("%02x", v), n) }

func data() api.Data {
	return api.Data{
		Slot: 1, Index: 2, Block: root(3),
		Source: api.Checkpoint{Epoch: 4, Root: root(5)},
		Target: api.Checkpoint{Epoch: 6, Root: root(7)},
	}
}

func dataText() string {
	return "0100000000000000 0200000000000000" + many(3, 32) + "0400000000000000" + many(5, 32) + "0600000000000000" + many(7, 32)
}

func header(v byte) api.SignedHeader {
	return api.SignedHeader{
		Header: api.Header{Slot: uint64(v), Proposer: uint64(v) + 1, Parent: root(v + 2), State: root(v + 3), Body: root(v + 4)},
		Sig:    sig(v + 5),
	}
}

func headerText(v byte) string {
	return fmt.Sprintf("%02x00000000000000 %02x00000000000000", v, v+1) + many(v+2, 32) + many(v+3, 32) + many(v+4, 32) + many(v+5, 96)
}

func wantBytes[T any](t *testing.T, k kind[T], x T, s string) {
	t.Helper()
	want := text(t, s)
	if got, err := k.enc(x); !bytes.Equal(got, want) || err != api.OK {
		t.Errorf("Enc%s: %x, error %d; want %x", k.name, got, err, want)
	}
	if got, err := k.read(want); !alike(got, x) || err != api.OK {
		t.Errorf("Read%s: %v, error %d; want %v", k.name, got, err, x)
	}
}

func TestKnownBytes(t *testing.T) {
	wantBytes(t, indexeds(), api.Indexed{Who: []uint64{258, 0, 1 << 63}, Data: data(), Sig: sig(8)},
		"e4000000"+dataText()+many(8, 96)+"0201000000000000 0000000000000000 0000000000000080")
	wantBytes(t, attests(), api.Attest{Bits: []bool{true, false, true}, Data: data(), Sig: sig(8)},
		"e4000000"+dataText()+many(8, 96)+"0d")
	wantBytes(t, attests(), api.Attest{Bits: make([]bool, 8), Data: data(), Sig: sig(8)},
		"e4000000"+dataText()+many(8, 96)+"0001")
	wantBytes(t, proposerSlashings(), api.ProposerSlashing{One: header(1), Two: header(11)}, headerText(1)+headerText(11))
	one := api.Indexed{Who: []uint64{258, 1<<64 - 1}, Data: data(), Sig: sig(8)}
	other := api.Indexed{Who: []uint64{9}, Sig: sig(9)}
	wantBytes(t, attesterSlashings(), api.AttesterSlashing{One: one, Two: other},
		"08000000 fc000000 e4000000"+dataText()+many(8, 96)+"0201000000000000 ffffffffffffffff"+
			"e4000000"+many(0, 128)+many(9, 96)+"0900000000000000")
	wantBytes(t, attesterSlashings(), api.AttesterSlashing{Two: one},
		"08000000 ec000000 e4000000"+many(0, 224)+"e4000000"+dataText()+many(8, 96)+"0201000000000000 ffffffffffffffff")
	wantBytes(t, deposits(), api.Deposit{
		Proof: [7]api.Root{root(1), root(2), root(3), root(4), root(5), root(6), root(7)},
		Data:  api.DepositData{Key: api.Key(bytes.Repeat([]byte{8}, 48)), Credentials: root(9), Amount: 10, Sig: sig(11)},
	}, many(1, 32)+many(2, 32)+many(3, 32)+many(4, 32)+many(5, 32)+many(6, 32)+many(7, 32)+
		many(8, 48)+many(9, 32)+"0a00000000000000"+many(11, 96))
}

// squares are the numbers 1, 2, 5, 10 and so on.
func squares(n int) []uint64 {
	l := make([]uint64, n)
	for i := range l {
		l[i] = uint64(i*i + 1)
	}
	return l
}

// thirds are bits of which those at 1, 4, 7 and so on aren't set.
func thirds(n int) []uint64 {
	l := make([]uint64, n)
	for i := range l {
		if i%3 != 1 {
			l[i] = 1
		}
	}
	return l
}

// knownRoot holds the roots of a container with these lists, whose fields have the bytes 1, 2, 3 and so on, or zeros.
func knownRoot[T any](t *testing.T, k kind[T], ofRising, ofZeros string, lists ...[]uint64) {
	t.Helper()
	if got, err := k.root(k.value(rising, lists...)); got != api.Root(text(t, ofRising)) || err != api.OK {
		t.Errorf("Root%s of rising bytes and %v: %x, error %d; want %s", k.name, lists, got, err, ofRising)
	}
	if got, err := k.root(k.value(all(0), lists...)); got != api.Root(text(t, ofZeros)) || err != api.OK {
		t.Errorf("Root%s of zeros and %v: %x, error %d; want %s", k.name, lists, got, err, ofZeros)
	}
}

func TestKnownRootsOfIndexed(t *testing.T) {
	k := indexeds()
	knownRoot(t, k, "f8911f139970c12774e992742a0b8369b179398021108f9a8d2b13958bed6886", "3e503304b8a38e83817d6a9f2e8d34b7fadbb7cc8c9c92897ba92475616c2328", squares(0))
	knownRoot(t, k, "fbf35abae04c691fb10b40d2f820bc8acc19895e50323e0f5835b6dce78e9afa", "234baccfe9446e258e49f108ab29014d2338e80dd9fc5ffe830b9d71c8d23645", squares(1))
	knownRoot(t, k, "ffa6d00e69d832e0b2f44b112ea067b22826879729d08ce72e5e412e801c07a0", "07120040540200e3f9481d3ff887eb3fc041ce6e4921b66f085789f54cd83d93", squares(4))
	knownRoot(t, k, "d7207092b5763ffeb16dc85448361a38561196cf1931d7337afb87cb65784d6e", "747a926eba7746e47fe437fc98f93b684a0344ab7d4a22a869ec55553a4843b6", squares(5))
	knownRoot(t, k, "854a8786a54256c89ca1b58509a14b88d97b54f26e81fc26b28c84a4f63b3197", "00f276d77dbb636fd66c728ca704db78f5b7b41ed2df748c9aac7a4f08364f04", squares(63))
	knownRoot(t, k, "cedcf63bedb4b2bec66cad17856b2abe5ec531a151ace5ec7034bc6bea61aa94", "4b1b8471aa5d59fef9dda9d01c18da125f7530adc6268f43e580a40c626226d1", squares(64))
}

func TestKnownRootsOfAttest(t *testing.T) {
	k := attests()
	knownRoot(t, k, "f0201b4bc1cc99bf8607c965fb61bba84158fe1e381d000aa36bf815e39d2528", "6f3634fb4a277356482054002182196e91e0d044b2774ffaf4cc8096284c7934", thirds(0))
	knownRoot(t, k, "3f1b81193f47d37892e47a8adc93f3579a02740507652d406ec7094fcdac9a49", "122af7de5fa8a65bfbd44805899709370b764a86c3d857d803f4e1c99b858aa8", thirds(1))
	knownRoot(t, k, "cf144fdc47d42d6b8b7a8b18832f56af026bc2a40d701bb8c838d9cadb16e661", "52034fdbb6f4dd3872eaa417a6a8960bfecb1906601bc8e3272a7808876745a5", thirds(8))
	knownRoot(t, k, "2cfb47dc363a1312d14a8ab460a4bae2a0e6b25767567e06bca7afcc8b7ead17", "84bb7d6ef7df884cf8f5b9fb8f5f8a8e23abb7d442a51c01f91fb5de8cd60a9f", thirds(9))
	knownRoot(t, k, "c615b98cd867781097167e7169c0939a6c96f52eabfbd4baf390aa000a50ce90", "058250cb0d6cabaea941d56f15e4d184e8addc21000e0bd6fd3c4a8af52cbbb5", thirds(63))
	knownRoot(t, k, "b743e6f53364896e97217f89560381cd6057cc8f200a756a731e6d1e4564f911", "9dda0f03d403cb1cce16fe7ea2fa2d48bc9922b1bddb19e603a59178446beb5d", thirds(64))
}

func TestKnownRootsOfSlashings(t *testing.T) {
	knownRoot(t, proposerSlashings(), "f98b28daf156cdbe739e6dfa5f9aeef1b8147035c035e70a5d66a5422d3aa70a", "bd6a4376cd9cfe92961ca3346e66c53447b728f8cda39c283f358c9c50730586")
	k := attesterSlashings()
	knownRoot(t, k, "8595a1ed94af8d470adaa2d541ddf76ca2d96b66b4d1c168d9173296082525a5", "969b6e6234f2b8add290031a612000b6bfbfaa79b316cc6b4d5c7d192ae01706", squares(0), squares(0))
	knownRoot(t, k, "737ce304bf58795cdd0ba4e0640e069e81f6507d76206c7362153635b8d1a723", "f773d003c76ddcfbd90368b3b4f0cdd7255a02e1b472154ceacc2046a480b85c", squares(1), squares(2))
	knownRoot(t, k, "b6d5e3591e5451662e3e70f889fff0cbba9a878accc22993d2d8553f45929ed8", "0a400f972b3e30f947298e0750cc774b7d29af42ea92332542bc0928e42a217b", squares(64), squares(0))
	knownRoot(t, k, "ae9e24a942b0d165a307e5d59052dd5d7421bacaa1e647ff2afb19a97e927e91", "c8636e167203b43052d9bf8e5de9f04d137a2d3dd4215701a18e7b844918744c", squares(0), squares(64))
	knownRoot(t, k, "5f106ff539bc22202fbea12797a48ae776f71e720f21e8f4c4b930d61ae643f6", "d70505ca820de1f470309b1b4c3b6c7452d7a5ee164ab15bbe8d5a678de60778", squares(63), squares(64))
}

func TestKnownRootsOfDeposit(t *testing.T) {
	knownRoot(t, deposits(), "7741e63bb34eb26304badc94166baee39f5680db3f304511ae656cea5ed76a7d", "c849d9bd06a518969cef5c800a5bcd7aecf46bea23a928586e1a42282748a2be")
}

// Wrong inputs, with the error of each written out.

// withOffset puts an offset at a place of the head.
func withOffset(b []byte, at int, offset uint32) []byte {
	b = bytes.Clone(b)
	binary.LittleEndian.PutUint32(b[at:], offset)
	return b
}

func wrongOffsets() []uint32 {
	return []uint32{0, 1, 4, 132, 224, 227, 229, 230, 236, 252, 253, 1000, 228 << 8, 228 << 24, 228 + 1<<16, 1 << 31, 1<<32 - 1}
}

func TestOffsetOfIndexed(t *testing.T) {
	b := indexedBytes(api.Indexed{Who: squares(3), Data: data(), Sig: sig(8)})
	for _, offset := range wrongOffsets() {
		wantRefused(t, indexeds(), fmt.Sprint("the offset ", offset), withOffset(b, 0, offset), api.ErrForm)
	}
}

func TestOffsetOfAttest(t *testing.T) {
	b := attestBytes(api.Attest{Bits: make([]bool, 64), Data: data(), Sig: sig(8)})
	for _, offset := range wrongOffsets() {
		wantRefused(t, attests(), fmt.Sprint("the offset ", offset), withOffset(b, 0, offset), api.ErrForm)
	}
}

func TestOffsetsOfAttesterSlashing(t *testing.T) {
	k := attesterSlashings()
	one := api.Indexed{Who: squares(3), Data: data(), Sig: sig(8)}
	b := attesterSlashingBytes(api.AttesterSlashing{One: one, Two: one})
	end := uint32(len(b)) // 512
	middle := uint32(8 + 252)
	for _, offset := range []uint32{0, 1, 4, 7, 9, 12, 228, middle, end, end + 1, 8 << 8, 8 << 24, 1<<32 - 1} {
		wantRefused(t, k, fmt.Sprint("the first offset ", offset), withOffset(b, 0, offset), api.ErrForm)
	}
	for offset, want := range map[uint32]api.Errno{
		0: api.ErrForm, 1: api.ErrForm, 4: api.ErrForm, 7: api.ErrForm, // out of order
		8:                       api.ErrSize, // One has no bytes,
		9:                       api.ErrSize, // or too few
		8 + 227:                 api.ErrSize,
		8 + 228:                 api.ErrForm, // One is whole; the rest begins with a number of its list
		middle - 1:              api.ErrSize, // a list of 23 bytes
		middle + 1:              api.ErrSize, // a list of 25 bytes
		middle + 8:              api.ErrForm, // Two begins with its own data
		end - 227:               api.ErrSize, // One's list has no multiple of eight
		end - 4:                 api.ErrSize,
		end:                     api.ErrSize, // Two has no bytes
		end + 1:                 api.ErrForm,
		1 << 31:                 api.ErrForm,
		1<<32 - 1:               api.ErrForm,
		middle + 1<<16:          api.ErrForm,
		middle<<16 | middle>>16: api.ErrForm,
	} {
		wantRefused(t, k, fmt.Sprint("the second offset ", offset), withOffset(b, 4, offset), want)
	}
	for _, offset := range []uint32{0, 227, 229, 252, end, 1<<32 - 1} {
		wantRefused(t, k, fmt.Sprint("One's offset ", offset), withOffset(b, 8, offset), api.ErrForm)
		wantRefused(t, k, fmt.Sprint("Two's offset ", offset), withOffset(b, int(middle), offset), api.ErrForm)
	}
}

// listBehind a head that is right.
func listBehind(list ...byte) []byte { return append(attested(data(), sig(8)), list...) }

func TestListOfIndexed(t *testing.T) {
	for length, want := range map[int]api.Errno{
		1: api.ErrSize, 7: api.ErrSize, 9: api.ErrSize, 12: api.ErrSize, 511: api.ErrSize, 513: api.ErrSize,
		519: api.ErrSize, 521: api.ErrSize, // too long as well, but that counts less
		520: api.ErrLong, 528: api.ErrLong, 1024: api.ErrLong, 80000: api.ErrLong,
		80001: api.ErrSize,
	} {
		wantRefused(t, indexeds(), fmt.Sprintf("a list of %d bytes", length), listBehind(make([]byte, length)...), want)
	}
	for _, n := range []int{0, 1, 63, 64} {
		x, err := oper.ReadIndexed(listBehind(make([]byte, 8*n)...))
		if len(x.Who) != n || err != api.OK {
			t.Errorf("ReadIndexed of %d zeros: %v, error %d", n, x.Who, err)
		}
	}
}

func TestListOfAttest(t *testing.T) {
	k := attests()
	wantRefused(t, k, "no byte of a list", listBehind(), api.ErrSize)
	for n := 1; n <= 20; n++ {
		wantRefused(t, k, fmt.Sprintf("%d bytes 0 of a list", n), listBehind(make([]byte, n)...), api.ErrForm)
		// Bits in plenty, of which none is the one that tells the length, since the last byte is 0.
		b := append(bytes.Repeat([]byte{255}, n), 0)
		wantRefused(t, k, fmt.Sprintf("%d bytes 255 and a zero", n), listBehind(b...), api.ErrForm)
	}
	eight := make([]byte, 8)
	for last := 2; last < 256; last++ {
		wantRefused(t, k, fmt.Sprintf("64 bits and %d", last), listBehind(append(eight, byte(last))...), api.ErrLong)
	}
	for last := 1; last < 256; last++ {
		wantRefused(t, k, fmt.Sprintf("72 bits and %d", last), listBehind(append(make([]byte, 9), byte(last))...), api.ErrLong)
	}
	for list, want := range map[string][]bool{
		"01":                 {},
		"02":                 {false},
		"03":                 {true},
		"80":                 make([]bool, 7),
		"0001":               make([]bool, 8),
		"0000000000000080":   make([]bool, 63),
		"000000000000000001": make([]bool, 64),
		"010000000000008001": append(append([]bool{true}, make([]bool, 62)...), true),
	} {
		x, err := oper.ReadAttest(listBehind(text(t, list)...))
		if !slices.Equal(x.Bits, want) || err != api.OK {
			t.Errorf("ReadAttest of the list %s: %v, error %d", list, x.Bits, err)
		}
	}
}

// TestFirstErrorCounts: two errors at once, in one container or one in each half.
func TestFirstErrorCounts(t *testing.T) {
	wantRefused(t, indexeds(), "a short head with a wrong offset", withOffset(listBehind(), 0, 1)[:227], api.ErrSize)
	wantRefused(t, attests(), "a short head with a wrong offset", withOffset(listBehind(), 0, 1)[:227], api.ErrSize)
	wantRefused(t, indexeds(), "a wrong offset and 7 bytes", withOffset(listBehind(make([]byte, 7)...), 0, 229), api.ErrForm)
	wantRefused(t, indexeds(), "a wrong offset and 65 numbers", withOffset(listBehind(make([]byte, 520)...), 0, 229), api.ErrForm)
	wantRefused(t, attests(), "a wrong offset and no list", withOffset(listBehind(), 0, 227), api.ErrForm)
	wantRefused(t, attests(), "a wrong offset and 72 bits", withOffset(listBehind(append(make([]byte, 9), 1)...), 0, 227), api.ErrForm)

	halves := map[string][]byte{
		"short":  make([]byte, 227),
		"odd":    listBehind(make([]byte, 9)...),
		"formed": withOffset(listBehind(make([]byte, 8)...), 0, 232),
		"long":   listBehind(make([]byte, 520)...),
		"right":  listBehind(make([]byte, 16)...),
	}
	errors := map[string]api.Errno{"short": api.ErrSize, "odd": api.ErrSize, "formed": api.ErrForm, "long": api.ErrLong, "right": api.OK}
	k := attesterSlashings()
	for oneName, one := range halves {
		for twoName, two := range halves {
			b := slices.Concat(four(four(nil, 8), 8+len(one)), one, two)
			want := errors[oneName]
			if want == api.OK {
				want = errors[twoName]
			}
			name := oneName + " and " + twoName
			if want == api.OK {
				if x, err := k.read(b); len(x.One.Who) != 2 || len(x.Two.Who) != 2 || err != api.OK {
					t.Errorf("ReadAttesterSlashing of %s: %v, error %d", name, x, err)
				}
			} else {
				wantRefused(t, k, name, b, want)
			}
			wantRefused(t, k, name+", offsets out of order", withOffset(b, 4, 7), api.ErrForm)
			wantRefused(t, k, name+", the first offset too great", withOffset(b, 0, 9), api.ErrForm)
			wantRefused(t, k, name+", seven bytes", b[:7], api.ErrSize)
		}
	}
}

// TestBytesOfAnotherType: types with a size refuse each other's bytes, and all those of another length.
func TestBytesOfAnotherType(t *testing.T) {
	wantRefused(t, deposits(), "the bytes of a ProposerSlashing", make([]byte, 416), api.ErrSize)
	wantRefused(t, proposerSlashings(), "the bytes of a Deposit", make([]byte, 408), api.ErrSize)
	for _, length := range []int{0, 1, 184, 208, 224, 407, 409, 415, 417, 816, 832} {
		wantRefused(t, deposits(), fmt.Sprintf("%d bytes", length), make([]byte, length), api.ErrSize)
		wantRefused(t, proposerSlashings(), fmt.Sprintf("%d bytes", length), make([]byte, length), api.ErrSize)
	}
	// An Indexed of one number whose highest byte isn't 0 is an Attest as well: the bytes alone don't tell.
	b := indexedBytes(api.Indexed{Who: []uint64{1 << 63}, Data: data(), Sig: sig(8)})
	if x, err := oper.ReadAttest(b); len(x.Bits) != 63 || err != api.OK {
		t.Errorf("ReadAttest of an Indexed of one: %v, error %d", x, err)
	}
	wantRefused(t, attests(), "an Indexed of one small number", indexedBytes(api.Indexed{Who: []uint64{5}}), api.ErrForm)
}

// TestSpareRoomIsNoLength: a list of 64 may have as much spare room as it likes.
func TestSpareRoomIsNoLength(t *testing.T) {
	who, bits := make([]uint64, 64, 1000), make([]bool, 64, 1000)
	if b, err := oper.EncIndexed(api.Indexed{Who: who}); len(b) != 740 || err != api.OK {
		t.Errorf("EncIndexed: %d bytes, error %d", len(b), err)
	}
	if b, err := oper.EncAttest(api.Attest{Bits: bits}); len(b) != 237 || err != api.OK {
		t.Errorf("EncAttest: %d bytes, error %d", len(b), err)
	}
	if root, err := oper.RootIndexed(api.Indexed{Who: who}); root != indexedRoot(api.Indexed{Who: who}) || err != api.OK {
		t.Errorf("RootIndexed: %x, error %d", root, err)
	}
	if root, err := oper.RootAttest(api.Attest{Bits: bits}); root != attestRoot(api.Attest{Bits: bits}) || err != api.OK {
		t.Errorf("RootAttest: %x, error %d", root, err)
	}
}
