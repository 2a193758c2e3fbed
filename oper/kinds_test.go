package oper_test

import (
	"crypto/sha256"
	"encoding/binary"
	"fmt"
	"slices"

	"pharos/api"
	"pharos/oper"
)

// kind is one row of the chapter's table, with a second reading of its bytes, of what is refused, and of its root, by hand and with the library alone.
type kind[T any] struct {
	name   string
	enc    func(T) ([]byte, api.Errno)
	read   func([]byte) (T, api.Errno)
	root   func(T) (api.Root, api.Errno)
	fields []field[T]
	lists  []list[T]
	bytes  func(T) []byte
	refuse func([]byte) api.Errno
	plain  func(T) api.Root
}

// field with a size, of a container or of one inside it, and how bytes become its value.
type field[T any] struct {
	name   string
	size   int
	number bool
	set    func(x *T, b []byte)
}

// list of a container or of one inside it, as the numbers that it is made of; of bits they are 0 and 1.
type list[T any] struct {
	name string
	bits bool
	of   func(x *T) any // *[]uint64 or *[]bool
}

// put numbers into the list, with memory of its own and some spare room.
func (l list[T]) put(x *T, numbers []uint64) {
	switch p := l.of(x).(type) {
	case *[]uint64:
		*p = append(make([]uint64, 0, len(numbers)+3), numbers...)
	case *[]bool:
		*p = make([]bool, 0, len(numbers)+3)
		for _, n := range numbers {
			*p = append(*p, n&1 == 1)
		}
	}
}

// null makes the list nil.
func (l list[T]) null(x *T) {
	switch p := l.of(x).(type) {
	case *[]uint64:
		*p = nil
	case *[]bool:
		*p = nil
	}
}

// spoil the list and its spare room.
func (l list[T]) spoil(x *T) {
	switch p := l.of(x).(type) {
	case *[]uint64:
		all := (*p)[:cap(*p)]
		for i := range all {
			all[i] ^= 0xa5a5
		}
	case *[]bool:
		all := (*p)[:cap(*p)]
		for i := range all {
			all[i] = !all[i]
		}
	}
}

func number[T any](name string, of func(*T) *uint64) field[T] {
	return field[T]{name, 8, true, func(x *T, b []byte) { *of(x) = binary.LittleEndian.Uint64(b) }}
}

func raw[T any](name string, size int, of func(*T) []byte) field[T] {
	return field[T]{name, size, false, func(x *T, b []byte) {
		if copy(of(x), b) != size || len(of(x)) != size {
			panic(name)
		}
	}}
}

// Fields of containers inside others.

func checkpointFields[T any](name string, of func(*T) *api.Checkpoint) []field[T] {
	return []field[T]{
		number(name+".Epoch", func(x *T) *uint64 { return &of(x).Epoch }),
		raw(name+".Root", 32, func(x *T) []byte { return of(x).Root[:] }),
	}
}

func dataFields[T any](name string, of func(*T) *api.Data) []field[T] {
	return slices.Concat(
		[]field[T]{
			number(name+".Slot", func(x *T) *uint64 { return &of(x).Slot }),
			number(name+".Index", func(x *T) *uint64 { return &of(x).Index }),
			raw(name+".Block", 32, func(x *T) []byte { return of(x).Block[:] }),
		},
		checkpointFields(name+".Source", func(x *T) *api.Checkpoint { return &of(x).Source }),
		checkpointFields(name+".Target", func(x *T) *api.Checkpoint { return &of(x).Target }),
	)
}

func indexedFields[T any](name string, of func(*T) *api.Indexed) []field[T] {
	return append(
		dataFields(name+"Data", func(x *T) *api.Data { return &of(x).Data }),
		raw(name+"Sig", 96, func(x *T) []byte { return of(x).Sig[:] }),
	)
}

func signedHeaderFields[T any](name string, of func(*T) *api.SignedHeader) []field[T] {
	return []field[T]{
		number(name+".Header.Slot", func(x *T) *uint64 { return &of(x).Header.Slot }),
		number(name+".Header.Proposer", func(x *T) *uint64 { return &of(x).Header.Proposer }),
		raw(name+".Header.Parent", 32, func(x *T) []byte { return of(x).Header.Parent[:] }),
		raw(name+".Header.State", 32, func(x *T) []byte { return of(x).Header.State[:] }),
		raw(name+".Header.Body", 32, func(x *T) []byte { return of(x).Header.Body[:] }),
		raw(name+".Sig", 96, func(x *T) []byte { return of(x).Sig[:] }),
	}
}

// Bytes by hand.

func eight(b []byte, n uint64) []byte { return binary.LittleEndian.AppendUint64(b, n) }

func four(b []byte, n int) []byte { return binary.LittleEndian.AppendUint32(b, uint32(n)) }

// attested is a head of 228 bytes: the offset of the list, the data and the signature.
func attested(d api.Data, s api.Sig) []byte {
	b := []byte{228, 0, 0, 0}
	b = eight(b, d.Slot)
	b = eight(b, d.Index)
	b = append(b, d.Block[:]...)
	b = eight(b, d.Source.Epoch)
	b = append(b, d.Source.Root[:]...)
	b = eight(b, d.Target.Epoch)
	b = append(b, d.Target.Root[:]...)
	return append(b, s[:]...)
}

func indexedBytes(x api.Indexed) []byte {
	b := attested(x.Data, x.Sig)
	for _, who := range x.Who {
		b = eight(b, who)
	}
	return b
}

// packed bits, without the one that tells the length.
func packed(l []bool) []byte {
	b := make([]byte, (len(l)+7)/8)
	for i, bit := range l {
		if bit {
			b[i/8] |= 1 << (i % 8)
		}
	}
	return b
}

func attestBytes(x api.Attest) []byte {
	return append(attested(x.Data, x.Sig), packed(append(slices.Clone(x.Bits), true))...)
}

func signedHeaderBytes(b []byte, x api.SignedHeader) []byte {
	b = eight(b, x.Header.Slot)
	b = eight(b, x.Header.Proposer)
	b = append(b, x.Header.Parent[:]...)
	b = append(b, x.Header.State[:]...)
	b = append(b, x.Header.Body[:]...)
	return append(b, x.Sig[:]...)
}

func attesterSlashingBytes(x api.AttesterSlashing) []byte {
	one, two := indexedBytes(x.One), indexedBytes(x.Two)
	b := four(nil, 8)
	b = four(b, 8+len(one))
	return slices.Concat(b, one, two)
}

func depositBytes(x api.Deposit) []byte {
	var b []byte
	for _, root := range x.Proof {
		b = append(b, root[:]...)
	}
	b = append(b, x.Data.Key[:]...)
	b = append(b, x.Data.Credentials[:]...)
	b = eight(b, x.Data.Amount)
	return append(b, x.Data.Sig[:]...)
}

// What is refused, by hand.

func refuseHead(b []byte) api.Errno {
	switch {
	case len(b) < 228:
		return api.ErrSize
	case binary.LittleEndian.Uint32(b) != 228:
		return api.ErrForm
	}
	return api.OK
}

func refuseIndexed(b []byte) api.Errno {
	switch err := refuseHead(b); {
	case err != api.OK:
		return err
	case (len(b)-228)%8 != 0:
		return api.ErrSize
	case len(b) > 228+64*8:
		return api.ErrLong
	}
	return api.OK
}

func refuseAttest(b []byte) api.Errno {
	switch err := refuseHead(b); {
	case err != api.OK:
		return err
	case len(b) == 228:
		return api.ErrSize
	case b[len(b)-1] == 0:
		return api.ErrForm
	case len(b) > 228+9, len(b) == 228+9 && b[236] > 1:
		return api.ErrLong
	}
	return api.OK
}

func refuseAttesterSlashing(b []byte) api.Errno {
	if len(b) < 8 {
		return api.ErrSize
	}
	one, two := uint64(binary.LittleEndian.Uint32(b)), uint64(binary.LittleEndian.Uint32(b[4:]))
	if one != 8 || two < 8 || two > uint64(len(b)) {
		return api.ErrForm
	}
	if err := refuseIndexed(b[8:two]); err != api.OK {
		return err
	}
	return refuseIndexed(b[two:])
}

func refuseLength(size int) func([]byte) api.Errno {
	return func(b []byte) api.Errno {
		if len(b) != size {
			return api.ErrSize
		}
		return api.OK
	}
}

// Roots by hand.

// two is the hash of two roots, by the library.
func two(a, b api.Root) api.Root { return sha256.Sum256(slices.Concat(a[:], b[:])) }

// chunk is a root of at most 32 bytes with zeros behind them.
func chunk(b []byte) api.Root {
	if len(b) > 32 {
		panic("a chunk of more than 32 bytes")
	}
	var c api.Root
	copy(c[:], b)
	return c
}

func numberChunk(n uint64) api.Root { return chunk(eight(nil, n)) }

// keyRoot: 48 bytes are two chunks, the second one half full.
func keyRoot(k api.Key) api.Root { return two(chunk(k[:32]), chunk(k[32:])) }

// sigRoot: 96 bytes are three chunks, and a zero one fills them up to four.
func sigRoot(s api.Sig) api.Root {
	return two(two(chunk(s[:32]), chunk(s[32:64])), two(chunk(s[64:]), api.Root{}))
}

// five fields are filled up to eight.
func five(a, b, c, d, e api.Root) api.Root {
	var none api.Root
	return two(two(two(a, b), two(c, d)), two(two(e, none), two(none, none)))
}

func checkpointRoot(x api.Checkpoint) api.Root { return two(numberChunk(x.Epoch), x.Root) }

func dataRoot(x api.Data) api.Root {
	return five(numberChunk(x.Slot), numberChunk(x.Index), x.Block, checkpointRoot(x.Source), checkpointRoot(x.Target))
}

// whoRoot: four numbers a chunk, sixteen chunks, however short the list is, and its length.
func whoRoot(l []uint64) api.Root {
	var row [16]api.Root
	for i, n := range l {
		binary.LittleEndian.PutUint64(row[i/4][i%4*8:], n)
	}
	for width := 8; width > 0; width /= 2 {
		for i := range width {
			row[i] = two(row[2*i], row[2*i+1])
		}
	}
	return two(row[0], numberChunk(uint64(len(l))))
}

// bitsRoot: 64 bits are at most one chunk, which is its own root, and the length.
func bitsRoot(l []bool) api.Root { return two(chunk(packed(l)), numberChunk(uint64(len(l)))) }

// three fields are filled up to four.
func three(a, b, c api.Root) api.Root { return two(two(a, b), two(c, api.Root{})) }

func indexedRoot(x api.Indexed) api.Root {
	return three(whoRoot(x.Who), dataRoot(x.Data), sigRoot(x.Sig))
}

func attestRoot(x api.Attest) api.Root {
	return three(bitsRoot(x.Bits), dataRoot(x.Data), sigRoot(x.Sig))
}

func signedHeaderRoot(x api.SignedHeader) api.Root {
	h := x.Header
	return two(five(numberChunk(h.Slot), numberChunk(h.Proposer), h.Parent, h.State, h.Body), sigRoot(x.Sig))
}

func depositRoot(x api.Deposit) api.Root {
	p, d := x.Proof, x.Data
	proof := two(two(two(p[0], p[1]), two(p[2], p[3])), two(two(p[4], p[5]), two(p[6], api.Root{})))
	return two(proof, two(two(keyRoot(d.Key), d.Credentials), two(numberChunk(d.Amount), sigRoot(d.Sig))))
}

// The five types.

func indexeds() kind[api.Indexed] {
	return kind[api.Indexed]{
		"Indexed", oper.EncIndexed, oper.ReadIndexed, oper.RootIndexed,
		indexedFields("", func(x *api.Indexed) *api.Indexed { return x }),
		[]list[api.Indexed]{{"Who", false, func(x *api.Indexed) any { return &x.Who }}},
		indexedBytes, refuseIndexed, indexedRoot,
	}
}

func attests() kind[api.Attest] {
	return kind[api.Attest]{
		"Attest", oper.EncAttest, oper.ReadAttest, oper.RootAttest,
		append(
			dataFields("Data", func(x *api.Attest) *api.Data { return &x.Data }),
			raw("Sig", 96, func(x *api.Attest) []byte { return x.Sig[:] }),
		),
		[]list[api.Attest]{{"Bits", true, func(x *api.Attest) any { return &x.Bits }}},
		attestBytes, refuseAttest, attestRoot,
	}
}

func proposerSlashings() kind[api.ProposerSlashing] {
	return kind[api.ProposerSlashing]{
		"ProposerSlashing", oper.EncProposerSlashing, oper.ReadProposerSlashing, oper.RootProposerSlashing,
		append(
			signedHeaderFields("One", func(x *api.ProposerSlashing) *api.SignedHeader { return &x.One }),
			signedHeaderFields("Two", func(x *api.ProposerSlashing) *api.SignedHeader { return &x.Two })...,
		),
		nil,
		func(x api.ProposerSlashing) []byte { return signedHeaderBytes(signedHeaderBytes(nil, x.One), x.Two) },
		refuseLength(416),
		func(x api.ProposerSlashing) api.Root { return two(signedHeaderRoot(x.One), signedHeaderRoot(x.Two)) },
	}
}

func attesterSlashings() kind[api.AttesterSlashing] {
	return kind[api.AttesterSlashing]{
		"AttesterSlashing", oper.EncAttesterSlashing, oper.ReadAttesterSlashing, oper.RootAttesterSlashing,
		append(
			indexedFields("One.", func(x *api.AttesterSlashing) *api.Indexed { return &x.One }),
			indexedFields("Two.", func(x *api.AttesterSlashing) *api.Indexed { return &x.Two })...,
		),
		[]list[api.AttesterSlashing]{
			{"One.Who", false, func(x *api.AttesterSlashing) any { return &x.One.Who }},
			{"Two.Who", false, func(x *api.AttesterSlashing) any { return &x.Two.Who }},
		},
		attesterSlashingBytes, refuseAttesterSlashing,
		func(x api.AttesterSlashing) api.Root { return two(indexedRoot(x.One), indexedRoot(x.Two)) },
	}
}

func deposits() kind[api.Deposit] {
	k := kind[api.Deposit]{
		"Deposit", oper.EncDeposit, oper.ReadDeposit, oper.RootDeposit,
		nil, nil, depositBytes, refuseLength(408), depositRoot,
	}
	for i := range 7 {
		k.fields = append(k.fields, raw(fmt.Sprint("Proof ", i), 32, func(x *api.Deposit) []byte { return x.Proof[i][:] }))
	}
	k.fields = append(k.fields,
		raw("Data.Key", 48, func(x *api.Deposit) []byte { return x.Data.Key[:] }),
		raw("Data.Credentials", 32, func(x *api.Deposit) []byte { return x.Data.Credentials[:] }),
		number("Data.Amount", func(x *api.Deposit) *uint64 { return &x.Data.Amount }),
		raw("Data.Sig", 96, func(x *api.Deposit) []byte { return x.Data.Sig[:] }),
	)
	return k
}
