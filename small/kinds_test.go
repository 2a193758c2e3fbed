package small_test

import (
	"crypto/sha256"
	"encoding/binary"
	"fmt"
	"slices"

	"pharos/api"
	"pharos/small"
)

// field of a container or of one inside it: where its bytes begin, how many there are, and how they become its value.
type field[T any] struct {
	name     string
	at, size int
	sort     string // "number", "bool", "bits" or "bytes"
	set      func(x *T, b []byte)
}

// kind is one row of the chapter's table, with a second reading of its root.
type kind[T comparable] struct {
	name   string
	size   int
	enc    func(T) []byte
	read   func([]byte) (T, api.Errno)
	root   func(T) api.Root
	fields []field[T]
	plain  func(T) api.Root
}

func number[T any](name string, at int, of func(*T) *uint64) field[T] {
	return field[T]{name, at, 8, "number", func(x *T, b []byte) { *of(x) = binary.LittleEndian.Uint64(b) }}
}

func flag[T any](name string, at int, of func(*T) *bool) field[T] {
	return field[T]{name, at, 1, "bool", func(x *T, b []byte) { *of(x) = b[0] == 1 }}
}

func raw[T any](name string, at, size int, of func(*T) []byte) field[T] {
	return field[T]{name, at, size, "bytes", func(x *T, b []byte) {
		if copy(of(x), b) != len(of(x)) {
			panic(name)
		}
	}}
}

// value with these bytes, by the table alone.
func (k kind[T]) value(b []byte) T {
	var x T
	for _, f := range k.fields {
		f.set(&x, b[f.at:f.at+f.size])
	}
	return x
}

// two is the hash of two roots, by the library.
func two(a, b api.Root) api.Root { return sha256.Sum256(slices.Concat(a[:], b[:])) }

// chunk is a root of at most 32 bytes with zeros behind them.
func chunk(b []byte) api.Root {
	if len(b) > 32 {
		panic("a chunk of more than 32 bytes")
	}
	var c api.Root
	copy(c[:], b)
	return c
}

func numberChunk(n uint64) api.Root { return chunk(binary.LittleEndian.AppendUint64(nil, n)) }

func boolChunk(v bool) api.Root {
	if v {
		return api.Root{1}
	}
	return api.Root{}
}

// keyRoot: 48 bytes are two chunks, the second one half full.
func keyRoot(k api.Key) api.Root { return two(chunk(k[:32]), chunk(k[32:])) }

// sigRoot: 96 bytes are three chunks, and a zero one fills them up to four.
func sigRoot(s api.Sig) api.Root {
	return two(two(chunk(s[:32]), chunk(s[32:64])), two(chunk(s[64:]), api.Root{}))
}

// five fields are filled up to eight.
func five(a, b, c, d, e api.Root) api.Root {
	var none api.Root
	return two(two(two(a, b), two(c, d)), two(two(e, none), two(none, none)))
}

func forks() kind[api.Fork] {
	return kind[api.Fork]{
		"Fork", 16, small.EncFork, small.ReadFork, small.RootFork,
		[]field[api.Fork]{
			raw("Previous", 0, 4, func(x *api.Fork) []byte { return x.Previous[:] }),
			raw("Current", 4, 4, func(x *api.Fork) []byte { return x.Current[:] }),
			number("Epoch", 8, func(x *api.Fork) *uint64 { return &x.Epoch }),
		},
		func(x api.Fork) api.Root {
			return two(two(chunk(x.Previous[:]), chunk(x.Current[:])), two(numberChunk(x.Epoch), api.Root{}))
		},
	}
}

func checkpointRoot(x api.Checkpoint) api.Root { return two(numberChunk(x.Epoch), x.Root) }

func checkpoints() kind[api.Checkpoint] {
	return kind[api.Checkpoint]{
		"Checkpoint", 40, small.EncCheckpoint, small.ReadCheckpoint, small.RootCheckpoint,
		[]field[api.Checkpoint]{
			number("Epoch", 0, func(x *api.Checkpoint) *uint64 { return &x.Epoch }),
			raw("Root", 8, 32, func(x *api.Checkpoint) []byte { return x.Root[:] }),
		},
		checkpointRoot,
	}
}

func validators() kind[api.Validator] {
	return kind[api.Validator]{
		"Validator", 121, small.EncValidator, small.ReadValidator, small.RootValidator,
		[]field[api.Validator]{
			raw("Key", 0, 48, func(x *api.Validator) []byte { return x.Key[:] }),
			raw("Credentials", 48, 32, func(x *api.Validator) []byte { return x.Credentials[:] }),
			number("Effective", 80, func(x *api.Validator) *uint64 { return &x.Effective }),
			flag("Slashed", 88, func(x *api.Validator) *bool { return &x.Slashed }),
			number("Eligible", 89, func(x *api.Validator) *uint64 { return &x.Eligible }),
			number("Activation", 97, func(x *api.Validator) *uint64 { return &x.Activation }),
			number("Exit", 105, func(x *api.Validator) *uint64 { return &x.Exit }),
			number("Withdrawable", 113, func(x *api.Validator) *uint64 { return &x.Withdrawable }),
		},
		func(x api.Validator) api.Root {
			front := two(two(keyRoot(x.Key), x.Credentials), two(numberChunk(x.Effective), boolChunk(x.Slashed)))
			epochs := two(two(numberChunk(x.Eligible), numberChunk(x.Activation)), two(numberChunk(x.Exit), numberChunk(x.Withdrawable)))
			return two(front, epochs)
		},
	}
}

func datas() kind[api.Data] {
	return kind[api.Data]{
		"Data", 128, small.EncData, small.ReadData, small.RootData,
		[]field[api.Data]{
			number("Slot", 0, func(x *api.Data) *uint64 { return &x.Slot }),
			number("Index", 8, func(x *api.Data) *uint64 { return &x.Index }),
			raw("Block", 16, 32, func(x *api.Data) []byte { return x.Block[:] }),
			number("Source.Epoch", 48, func(x *api.Data) *uint64 { return &x.Source.Epoch }),
			raw("Source.Root", 56, 32, func(x *api.Data) []byte { return x.Source.Root[:] }),
			number("Target.Epoch", 88, func(x *api.Data) *uint64 { return &x.Target.Epoch }),
			raw("Target.Root", 96, 32, func(x *api.Data) []byte { return x.Target.Root[:] }),
		},
		func(x api.Data) api.Root {
			return five(numberChunk(x.Slot), numberChunk(x.Index), x.Block, checkpointRoot(x.Source), checkpointRoot(x.Target))
		},
	}
}

func eth1s() kind[api.Eth1] {
	return kind[api.Eth1]{
		"Eth1", 72, small.EncEth1, small.ReadEth1, small.RootEth1,
		[]field[api.Eth1]{
			raw("Deposits", 0, 32, func(x *api.Eth1) []byte { return x.Deposits[:] }),
			number("Count", 32, func(x *api.Eth1) *uint64 { return &x.Count }),
			raw("Block", 40, 32, func(x *api.Eth1) []byte { return x.Block[:] }),
		},
		func(x api.Eth1) api.Root {
			return two(two(x.Deposits, numberChunk(x.Count)), two(x.Block, api.Root{}))
		},
	}
}

func headerRoot(x api.Header) api.Root {
	return five(numberChunk(x.Slot), numberChunk(x.Proposer), x.Parent, x.State, x.Body)
}

func headers() kind[api.Header] {
	return kind[api.Header]{
		"Header", 112, small.EncHeader, small.ReadHeader, small.RootHeader,
		[]field[api.Header]{
			number("Slot", 0, func(x *api.Header) *uint64 { return &x.Slot }),
			number("Proposer", 8, func(x *api.Header) *uint64 { return &x.Proposer }),
			raw("Parent", 16, 32, func(x *api.Header) []byte { return x.Parent[:] }),
			raw("State", 48, 32, func(x *api.Header) []byte { return x.State[:] }),
			raw("Body", 80, 32, func(x *api.Header) []byte { return x.Body[:] }),
		},
		headerRoot,
	}
}

func signedHeaders() kind[api.SignedHeader] {
	return kind[api.SignedHeader]{
		"SignedHeader", 208, small.EncSignedHeader, small.ReadSignedHeader, small.RootSignedHeader,
		[]field[api.SignedHeader]{
			number("Header.Slot", 0, func(x *api.SignedHeader) *uint64 { return &x.Header.Slot }),
			number("Header.Proposer", 8, func(x *api.SignedHeader) *uint64 { return &x.Header.Proposer }),
			raw("Header.Parent", 16, 32, func(x *api.SignedHeader) []byte { return x.Header.Parent[:] }),
			raw("Header.State", 48, 32, func(x *api.SignedHeader) []byte { return x.Header.State[:] }),
			raw("Header.Body", 80, 32, func(x *api.SignedHeader) []byte { return x.Header.Body[:] }),
			raw("Sig", 112, 96, func(x *api.SignedHeader) []byte { return x.Sig[:] }),
		},
		func(x api.SignedHeader) api.Root { return two(headerRoot(x.Header), sigRoot(x.Sig)) },
	}
}

func depositDatas() kind[api.DepositData] {
	return kind[api.DepositData]{
		"DepositData", 184, small.EncDepositData, small.ReadDepositData, small.RootDepositData,
		[]field[api.DepositData]{
			raw("Key", 0, 48, func(x *api.DepositData) []byte { return x.Key[:] }),
			raw("Credentials", 48, 32, func(x *api.DepositData) []byte { return x.Credentials[:] }),
			number("Amount", 80, func(x *api.DepositData) *uint64 { return &x.Amount }),
			raw("Sig", 88, 96, func(x *api.DepositData) []byte { return x.Sig[:] }),
		},
		func(x api.DepositData) api.Root {
			return two(two(keyRoot(x.Key), x.Credentials), two(numberChunk(x.Amount), sigRoot(x.Sig)))
		},
	}
}

func exitRoot(x api.Exit) api.Root { return two(numberChunk(x.Epoch), numberChunk(x.Validator)) }

func exits() kind[api.Exit] {
	return kind[api.Exit]{
		"Exit", 16, small.EncExit, small.ReadExit, small.RootExit,
		[]field[api.Exit]{
			number("Epoch", 0, func(x *api.Exit) *uint64 { return &x.Epoch }),
			number("Validator", 8, func(x *api.Exit) *uint64 { return &x.Validator }),
		},
		exitRoot,
	}
}

func signedExits() kind[api.SignedExit] {
	return kind[api.SignedExit]{
		"SignedExit", 112, small.EncSignedExit, small.ReadSignedExit, small.RootSignedExit,
		[]field[api.SignedExit]{
			number("Exit.Epoch", 0, func(x *api.SignedExit) *uint64 { return &x.Exit.Epoch }),
			number("Exit.Validator", 8, func(x *api.SignedExit) *uint64 { return &x.Exit.Validator }),
			raw("Sig", 16, 96, func(x *api.SignedExit) []byte { return x.Sig[:] }),
		},
		func(x api.SignedExit) api.Root { return two(exitRoot(x.Exit), sigRoot(x.Sig)) },
	}
}

func syncAggregates() kind[api.SyncAggregate] {
	return kind[api.SyncAggregate]{
		"SyncAggregate", 97, small.EncSyncAggregate, small.ReadSyncAggregate, small.RootSyncAggregate,
		[]field[api.SyncAggregate]{
			{"Bits", 0, 1, "bits", func(x *api.SyncAggregate, b []byte) {
				for i := range 8 {
					x.Bits[i] = b[0]&(1<<i) != 0
				}
			}},
			raw("Sig", 1, 96, func(x *api.SyncAggregate) []byte { return x.Sig[:] }),
		},
		func(x api.SyncAggregate) api.Root {
			signers := byte(0)
			for i, bit := range x.Bits {
				if bit {
					signers += 1 << i
				}
			}
			return two(api.Root{signers}, sigRoot(x.Sig))
		},
	}
}

func committees() kind[api.Committee] {
	k := kind[api.Committee]{
		"Committee", 432, small.EncCommittee, small.ReadCommittee, small.RootCommittee,
		nil,
		func(x api.Committee) api.Root {
			r := func(i int) api.Root { return keyRoot(x.Keys[i]) }
			keys := two(two(two(r(0), r(1)), two(r(2), r(3))), two(two(r(4), r(5)), two(r(6), r(7))))
			return two(keys, keyRoot(x.Sum))
		},
	}
	for i := range 8 {
		k.fields = append(k.fields, raw(fmt.Sprint("Keys ", i), 48*i, 48, func(x *api.Committee) []byte { return x.Keys[i][:] }))
	}
	k.fields = append(k.fields, raw("Sum", 384, 48, func(x *api.Committee) []byte { return x.Sum[:] }))
	return k
}
