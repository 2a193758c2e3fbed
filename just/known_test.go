package just_test

import (
	"crypto/sha256"
	"encoding/binary"
	"encoding/hex"
	"fmt"
	"testing"

	"pharos/api"
	"pharos/just"
)

// Answers that were reckoned apart from the program, in another language.

// riseRoot: bytes from a first one on, each one more than the last.
func riseRoot(first int) api.Root {
	var root api.Root
	for i := range root {
		root[i] = byte(first + i)
	}
	return root
}

// risen is a state whose roots go on from byte to byte.
func risen(x api.State) api.State {
	for i := range x.BlockRoots {
		x.BlockRoots[i] = riseRoot(32 * i)
	}
	x.OldJust.Root, x.Just.Root, x.Final.Root = riseRoot(40), riseRoot(50), riseRoot(60)
	return x
}

// justified: all that tells what is justified and final.
func justified(b []byte, x api.State) []byte {
	for _, is := range x.Bits {
		b = append(b, map[bool]byte{true: 1}[is])
	}
	for _, checkpoint := range []api.Checkpoint{x.OldJust, x.Just, x.Final} {
		b = binary.LittleEndian.AppendUint64(b, checkpoint.Epoch)
		b = append(b, checkpoint.Root[:]...)
	}
	return b
}

// sumOf bytes: the front half of their hash.
func sumOf(b []byte) string {
	hash := sha256.Sum256(b)
	return hex.EncodeToString(hash[:16])
}

// TestKnownWeigh: all settings of the bits, of both weights, and of both checkpoints' epochs.
func TestKnownWeigh(t *testing.T) {
	for _, known := range []struct {
		slot uint64
		sum  string
	}{
		{3, "7f213afe6c5f1eb4016f7ed18a863d85"},
		{7, "400502a647db4f10b8fb4d95dd4ca394"},
		{11, "87309c450d58e3e03d4d6ef313971273"},
		{15, "e4f460adbc60911a8a731bca31b8fc5d"},
		{19, "9f32ea00eb0f1f149c5e019723405834"},
		{23, "4bb359eee350f8bd26eae974218b9562"},
		{103, "8c042ecf5cf31c07081de6ea6cfa9d36"},
		{107, "b7403d331483967fd4b418156b19e7aa"},
		{4294967299, "4643eeaa9d860a237fd8e88099550c26"},
		{1099511627771, "30846172d43fb48c9958b7572aade695"},
		{1099511627775, "b01fc74644c6c5183c097d2f81f14ea5"},
	} {
		now := known.slot / 4
		var b []byte
		for set := range 16 {
			for weights := range uint64(4) {
				for firstAgo := range min(now, 4) + 1 {
					for secondAgo := range min(now, 4) + 1 {
						x := risen(stateOf(weighing{slot: known.slot, bits: lettersOf(set), first: now - firstAgo, second: now - secondAgo}))
						y, err := just.Weigh(x, 3, 1+weights%2, 1+weights/2)
						if err != api.OK {
							t.Fatalf("slot %d: error %d", known.slot, err)
						}
						b = justified(b, y)
					}
				}
			}
		}
		if sum := sumOf(b); sum != known.sum {
			t.Errorf("slot %d: %s; want %s", known.slot, sum, known.sum)
		}
	}
}

// manyKinds of validators and flags, by a rule.
func manyKinds(n int, k, slot uint64) api.State {
	now := slot / 4
	x := withValidators(slot, members(n, 0)...)
	for i := range uint64(n) {
		v := &x.Validators[i]
		v.Effective, v.Slashed = (7*i+k)%33*gwei, i%11 == k%11
		if i%3 == 0 {
			v.Activation = max(now+i*k%4, 3) - 3
		}
		if i%4 == 1 && now+i*k%3 >= 1 {
			v.Exit = now + i*k%3 - 1
		}
		x.Previous[i], x.Current[i] = uint8((i*i+k)%8), uint8((i*k+3)%8)
		if i%5 != 0 && k%2 != 0 {
			x.Previous[i] |= 2
		}
		if i%7 != k%7 && k%3 != 0 {
			x.Current[i] |= 2
		}
	}
	x.Bits = bitsOf(lettersOf(int(k + slot/8)))
	x.OldJust.Epoch, x.Just.Epoch = max(now, 2)-2, max(now, 1)-1
	return risen(x)
}

// known answers: who has each of the flags, and what is justified and final behind.
type known struct {
	n           int
	k, slot     uint64
	who, bits   string
	just, final uint64
	sum         string
}

func TestKnown(t *testing.T) {
	for _, k := range knowns() {
		x := manyKinds(k.n, k.k, k.slot)
		mustRight(t, x)
		what := fmt.Sprintf("slot %d, %d validators", k.slot, k.n)
		var b []byte
		for _, epoch := range []uint64{max(k.slot/4, 1) - 1, k.slot / 4} {
			for flag := range 3 {
				who, err := just.Unslashed(x, flag, epoch)
				if err != api.OK {
					t.Errorf("%s, flag %d, epoch %d: error %d", what, flag, epoch, err)
				}
				b = binary.LittleEndian.AppendUint64(b, uint64(len(who)))
				for _, i := range who {
					b = binary.LittleEndian.AppendUint64(b, i)
				}
			}
		}
		if sum := sumOf(b); sum != k.who {
			t.Errorf("%s: those who have the flags: %s; want %s", what, sum, k.who)
		}
		y, err := just.Justify(x)
		if err != api.OK || y.Bits != bitsOf(k.bits) || y.Just.Epoch != k.just || y.Final.Epoch != k.final || sumOf(justified(nil, y)) != k.sum {
			t.Errorf("%s: bits %v, Just %v, Final %v, error %d", what, y.Bits, y.Just, y.Final, err)
		}
	}
}

func knowns() []known {
	return []known{
		{1, 1, 3, "33ae2e4faebf5bcdd08cbb8fafc1ee2d", "x...", 0, 0, "e4788cf383f8ad61222e20c4e15b2462"},
		{1, 1, 7, "1f1895a852c3f269577c2b836529750e", "x...", 0, 0, "e4788cf383f8ad61222e20c4e15b2462"},
		{1, 1, 11, "1f1895a852c3f269577c2b836529750e", "xxx.", 2, 1, "397a11fe20bd67802e91e9abca5e9455"},
		{1, 1, 15, "1f1895a852c3f269577c2b836529750e", "xxx.", 3, 2, "82f6863f43e1cd6ac1adf7223ba23451"},
		{1, 1, 103, "1f1895a852c3f269577c2b836529750e", "xx.x", 25, 24, "76ed0a584deebfcb30f3ed3848700575"},
		{1, 1, 107, "1f1895a852c3f269577c2b836529750e", "xxxx", 26, 25, "e618147d0e0f44e1e5d7de527eaecbe5"},
		{1, 1, 1099511627775, "1f1895a852c3f269577c2b836529750e", "xx..", 274877906943, 274877906942, "399bbd2ccebf0eb0a16e0a719115f33a"},
		{2, 5, 3, "4c9e553aba619912928f44fec8a8b803", "x.x.", 0, 0, "f2e60a4f637498551ff4a208ee94716b"},
		{2, 5, 7, "5c1db43b518ea353bbc2954280c7fb03", "x.x.", 0, 0, "f2e60a4f637498551ff4a208ee94716b"},
		{2, 5, 11, "5c1db43b518ea353bbc2954280c7fb03", "xxxx", 2, 1, "5679061b1427d88d060703efdd3f08c7"},
		{2, 5, 15, "5c1db43b518ea353bbc2954280c7fb03", "xxxx", 3, 2, "11c1505add4f830cbdb965c149752e71"},
		{2, 5, 103, "5c1db43b518ea353bbc2954280c7fb03", "xx..", 25, 24, "1d2564251a6e63450ca6220c255a587b"},
		{2, 5, 107, "5c1db43b518ea353bbc2954280c7fb03", "xxx.", 26, 25, "f45974c692ec5272a49cab4e15e69963"},
		{2, 5, 1099511627775, "5c1db43b518ea353bbc2954280c7fb03", "xx.x", 274877906943, 274877906942, "823c269b582185a51951afa5ed6908d4"},
		{3, 3, 3, "b623888702ddad17a23a983a4d9437a5", "xx..", 0, 0, "b202b0867bd4b69a5ea075bcb270341a"},
		{3, 3, 7, "13366d906b28ec3af68111943610cc48", "xx..", 0, 0, "b202b0867bd4b69a5ea075bcb270341a"},
		{3, 3, 11, "13366d906b28ec3af68111943610cc48", ".x.x", 1, 0, "d5e3d9d5837bd3758cdcf28f48a9f77a"},
		{3, 3, 15, "13366d906b28ec3af68111943610cc48", ".x.x", 2, 0, "5957157f7736855e8fe6907b8baefcf6"},
		{3, 3, 103, "13366d906b28ec3af68111943610cc48", ".xxx", 24, 23, "4fccd3afdb5e4ab48ddeae90aa225321"},
		{3, 3, 107, "13366d906b28ec3af68111943610cc48", ".x..", 25, 0, "308f501219f19b851d33033ca802d3d8"},
		{3, 3, 1099511627775, "13366d906b28ec3af68111943610cc48", ".xx.", 274877906942, 274877906941, "d3291054339ba29636d6466995c1e563"},
		{7, 2, 3, "5c22079ac139094f45d913d9029ef65d", ".x..", 0, 0, "07e154d4b5dedd61a635b7356732dd73"},
		{7, 2, 7, "840918fc6b555a92031f2fb775e3e5f0", ".x..", 0, 0, "07e154d4b5dedd61a635b7356732dd73"},
		{7, 2, 11, "840918fc6b555a92031f2fb775e3e5f0", "xxx.", 2, 1, "397a11fe20bd67802e91e9abca5e9455"},
		{7, 2, 15, "840918fc6b555a92031f2fb775e3e5f0", "xxx.", 3, 2, "82f6863f43e1cd6ac1adf7223ba23451"},
		{7, 2, 103, "840918fc6b555a92031f2fb775e3e5f0", "xxxx", 25, 24, "3ec8cb499f6403d82f3bbfe28b40d9cf"},
		{7, 2, 107, "840918fc6b555a92031f2fb775e3e5f0", "xxxx", 26, 25, "e618147d0e0f44e1e5d7de527eaecbe5"},
		{7, 2, 1099511627775, "840918fc6b555a92031f2fb775e3e5f0", "xx..", 274877906943, 274877906942, "399bbd2ccebf0eb0a16e0a719115f33a"},
		{16, 4, 3, "7b4721d9b2694d16af1d5e11646db86e", "..x.", 0, 0, "a7c6da835d4dd52fbd8e1885be583bb1"},
		{16, 4, 7, "77c8ed4daab1cc2570c3b2d0fd7595a5", "..x.", 0, 0, "a7c6da835d4dd52fbd8e1885be583bb1"},
		{16, 4, 11, "77c8ed4daab1cc2570c3b2d0fd7595a5", "xx.x", 2, 1, "6c8185da1176ad9b0eff4a03355558c0"},
		{16, 4, 15, "77c8ed4daab1cc2570c3b2d0fd7595a5", "xx.x", 3, 2, "7e31ee518233dab47442a8658bf5d848"},
		{16, 4, 103, "77c8ed4daab1cc2570c3b2d0fd7595a5", "x...", 25, 0, "53bd009c7326820ff9c8fe63953640ac"},
		{16, 4, 107, "77c8ed4daab1cc2570c3b2d0fd7595a5", "xx..", 26, 25, "7a276e68731d34e15774d7d9fcd65af7"},
		{16, 4, 1099511627775, "77c8ed4daab1cc2570c3b2d0fd7595a5", "xxx.", 274877906943, 274877906942, "53b890f80420bedc9fb5d053335280f5"},
		{16, 6, 3, "77669e36c0e85e4bf4c43fcf685cbf22", ".xx.", 0, 0, "52a42fedf358616cc30156dec492f0b6"},
		{16, 6, 7, "b2c6a1bbb88c8149851f046eae71b968", ".xx.", 0, 0, "52a42fedf358616cc30156dec492f0b6"},
		{16, 6, 11, "b2c6a1bbb88c8149851f046eae71b968", ".xxx", 1, 0, "6ca822bf31bbc79366856336478d21cc"},
		{16, 6, 15, "b2c6a1bbb88c8149851f046eae71b968", ".xxx", 2, 1, "f3ebc80554167c092aa48244792fdce9"},
		{16, 6, 103, "b2c6a1bbb88c8149851f046eae71b968", ".xx.", 24, 23, "00e255f09839d82772a2ceea91d72b46"},
		{16, 6, 107, "b2c6a1bbb88c8149851f046eae71b968", ".xx.", 25, 24, "a742ef8d8359b8c175f0d70ff1b1fed9"},
		{16, 6, 1099511627775, "b2c6a1bbb88c8149851f046eae71b968", ".x.x", 274877906942, 0, "f1cc26c48b973f5fb2c3f5048af171c1"},
		{40, 9, 3, "c19094d17b9b13c519b4fe8e9cf67b21", "x..x", 0, 0, "fe7cc0f1669533f633e7f8d5da44bde3"},
		{40, 9, 7, "05de9b52f2aea397667a3502ee9f5435", "x..x", 0, 0, "fe7cc0f1669533f633e7f8d5da44bde3"},
		{40, 9, 11, "05de9b52f2aea397667a3502ee9f5435", ".xx.", 1, 0, "034416b24f64ebeb1ec6f3e4d25457e9"},
		{40, 9, 15, "05de9b52f2aea397667a3502ee9f5435", ".xx.", 2, 1, "1eff497bdfdf586ff077c71d2ef45bbc"},
		{40, 9, 103, "05de9b52f2aea397667a3502ee9f5435", ".x.x", 24, 0, "43d7059e5a3b745132241c17761cae2c"},
		{40, 9, 107, "05de9b52f2aea397667a3502ee9f5435", ".xxx", 25, 24, "8bba5bed52e59ff63a06a6e7b7d52dc9"},
		{40, 9, 1099511627775, "05de9b52f2aea397667a3502ee9f5435", ".x..", 274877906942, 0, "c908d350158850930ae45b83667dcc58"},
		{100, 1, 3, "6d84ce166f28f48c141bd74340060a03", "x...", 0, 0, "e4788cf383f8ad61222e20c4e15b2462"},
		{100, 1, 7, "a45520f74e0937177d014e2c9f0f5847", "x...", 0, 0, "e4788cf383f8ad61222e20c4e15b2462"},
		{100, 1, 11, "a45520f74e0937177d014e2c9f0f5847", "xxx.", 2, 1, "397a11fe20bd67802e91e9abca5e9455"},
		{100, 1, 15, "a45520f74e0937177d014e2c9f0f5847", "xxx.", 3, 2, "82f6863f43e1cd6ac1adf7223ba23451"},
		{100, 1, 103, "a45520f74e0937177d014e2c9f0f5847", "xx.x", 25, 24, "76ed0a584deebfcb30f3ed3848700575"},
		{100, 1, 107, "a45520f74e0937177d014e2c9f0f5847", "xxxx", 26, 25, "e618147d0e0f44e1e5d7de527eaecbe5"},
		{100, 1, 1099511627775, "a45520f74e0937177d014e2c9f0f5847", "xx..", 274877906943, 274877906942, "399bbd2ccebf0eb0a16e0a719115f33a"},
		{300, 12, 3, "e52c4b777e392cca38c0650c7e3e373e", "..xx", 0, 0, "b1f25c42af399516e2df915dec504098"},
		{300, 12, 7, "8e45ac2118cf2fa36bf5b2fda53fbf01", "..xx", 0, 0, "b1f25c42af399516e2df915dec504098"},
		{300, 12, 11, "8e45ac2118cf2fa36bf5b2fda53fbf01", "xx.x", 2, 1, "6c8185da1176ad9b0eff4a03355558c0"},
		{300, 12, 15, "8e45ac2118cf2fa36bf5b2fda53fbf01", "xx.x", 3, 2, "7e31ee518233dab47442a8658bf5d848"},
		{300, 12, 103, "8e45ac2118cf2fa36bf5b2fda53fbf01", "x...", 25, 0, "53bd009c7326820ff9c8fe63953640ac"},
		{300, 12, 107, "8e45ac2118cf2fa36bf5b2fda53fbf01", "xx..", 26, 25, "7a276e68731d34e15774d7d9fcd65af7"},
		{300, 12, 1099511627775, "8e45ac2118cf2fa36bf5b2fda53fbf01", "xxx.", 274877906943, 274877906942, "53b890f80420bedc9fb5d053335280f5"},
		{1000, 8, 3, "da9507d5bf79b20f00e2db66276b8fde", "...x", 0, 0, "e79037eca10d63433192417c84f896a4"},
		{1000, 8, 7, "52695eb3f2208182f12bc25a3fd35cb2", "...x", 0, 0, "e79037eca10d63433192417c84f896a4"},
		{1000, 8, 11, "52695eb3f2208182f12bc25a3fd35cb2", "xx..", 2, 1, "74a04a490ed9a68ce829ce1bf59d0085"},
		{1000, 8, 15, "52695eb3f2208182f12bc25a3fd35cb2", "xx..", 3, 2, "0348a8af5471fe3797c686115cba0716"},
		{1000, 8, 103, "52695eb3f2208182f12bc25a3fd35cb2", "x..x", 25, 0, "ed9f91c10944c7b05fb333bd2e1e91aa"},
		{1000, 8, 107, "52695eb3f2208182f12bc25a3fd35cb2", "xx.x", 26, 25, "114d6f7e11e41d3881d0e59341c9d146"},
		{1000, 8, 1099511627775, "52695eb3f2208182f12bc25a3fd35cb2", "xxxx", 274877906943, 274877906942, "1aaa708f4e48e413dba8bcd810bb9e9c"},
	}
}
