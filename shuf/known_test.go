package shuf_test

import (
	"crypto/sha256"
	"encoding/binary"
	"encoding/hex"
	"slices"
	"testing"

	"pharos/api"
	"pharos/shuf"
)

// Answers that were reckoned apart from the program, with another language's hash.

var (
	zero   = api.Root{}
	three  = api.Root{3}
	rising = api.Root{0, 1, 2, 3, 4, 5, 6, 7, 8, 9, 10, 11, 12, 13, 14, 15, 16, 17, 18, 19, 20, 21, 22, 23, 24, 25, 26, 27, 28, 29, 30, 31}
	full   = api.Root(slices.Repeat([]byte{255}, 32))
	last   = api.Root{31: 128}
)

// The whole way of five places with the zero seed, by hand. The hashes of the seed and the bytes 0 to 5 begin with these bytes, the lowest of the number first; behind them the pivots, modulo 5:
//
//	7f9c9e31ac8256ca 0, 1fd4247443c9440c 3, 58cc2f44d3a27866 2, d9cf8add8675a1b2 3, 82f02cf2ac007461 1, 086fb60bd968fe68 1
//
// All places lie in the first byte of their round's first source; these are its five lowest bits, that of place 0 first:
//
//	ab: 11010, 01: 10000, b1: 10001, 1c: 00111, 5f: 11111, ac: 00110
//
// So the rounds exchange: 2 and 3; none; 3 and 4; 0 and 3, 1 and 2; 0 and 1, 2 and 4; none.
func TestFivePlacesByHand(t *testing.T) {
	pairs := [6][][2]uint64{{{2, 3}}, nil, {{3, 4}}, {{0, 3}, {1, 2}}, {{0, 1}, {2, 4}}, nil}
	for start, want := range []uint64{3, 4, 2, 0, 1} {
		at := uint64(start)
		for _, round := range pairs {
			for _, pair := range round {
				if at == pair[0] || at == pair[1] {
					at = pair[0] + pair[1] - at
					break
				}
			}
		}
		if at != want {
			t.Errorf("by hand %d goes to %d; want %d", start, at, want)
		}
		wantPlace(t, uint64(start), 5, zero, want)
		wantBack(t, want, 5, zero, uint64(start))
	}
}

// All places of some few, each one's goal at its place.
func TestFewPlaces(t *testing.T) {
	for _, known := range []struct {
		seed api.Root
		goal []uint64
	}{
		{zero, []uint64{0}},
		{zero, []uint64{1, 0}},
		{zero, []uint64{1, 2, 0}},
		{zero, []uint64{3, 4, 2, 0, 1}},
		{zero, []uint64{7, 1, 5, 3, 6, 0, 4, 2}},
		{zero, []uint64{7, 4, 3, 1, 12, 0, 6, 11, 8, 9, 2, 5, 10}},
		{three, []uint64{0}},
		{three, []uint64{1, 0}},
		{three, []uint64{2, 1, 0}},
		{three, []uint64{1, 2, 0, 4, 3}},
		{three, []uint64{2, 5, 4, 7, 3, 0, 1, 6}},
		{three, []uint64{4, 7, 6, 12, 9, 10, 11, 1, 5, 0, 8, 3, 2}},
		{rising, []uint64{0}},
		{rising, []uint64{0, 1}},
		{rising, []uint64{0, 2, 1}},
		{rising, []uint64{3, 4, 0, 2, 1}},
		{rising, []uint64{1, 5, 3, 4, 7, 2, 6, 0}},
		{rising, []uint64{10, 9, 4, 2, 7, 12, 0, 3, 11, 5, 6, 1, 8}},
		{full, []uint64{0}},
		{full, []uint64{0, 1}},
		{full, []uint64{0, 1, 2}},
		{full, []uint64{2, 1, 4, 3, 0}},
		{full, []uint64{3, 4, 1, 0, 2, 7, 5, 6}},
		{full, []uint64{1, 5, 10, 3, 11, 4, 6, 12, 0, 8, 2, 9, 7}},
		{last, []uint64{0}},
		{last, []uint64{0, 1}},
		{last, []uint64{1, 2, 0}},
		{last, []uint64{3, 0, 4, 1, 2}},
		{last, []uint64{2, 1, 7, 5, 3, 6, 4, 0}},
		{last, []uint64{8, 9, 7, 1, 12, 11, 3, 5, 10, 0, 2, 6, 4}},
	} {
		n := uint64(len(known.goal))
		for i, goal := range known.goal {
			wantPlace(t, uint64(i), n, known.seed, goal)
			wantBack(t, goal, n, known.seed, uint64(i))
		}
		// Where element i is i, the list tells the goals themselves.
		wantList(t, numbers(len(known.goal)), known.seed, known.goal)
	}
}

func TestManyPlaces(t *testing.T) {
	for _, known := range []struct {
		seed       api.Root
		i, n, goal uint64
	}{
		{zero, 0, 255, 126},
		{zero, 100, 255, 138},
		{zero, 254, 255, 204},
		{zero, 0, 256, 226},
		{zero, 127, 256, 78},
		{zero, 255, 256, 41},
		{zero, 0, 257, 175},
		{zero, 255, 257, 17},
		{zero, 256, 257, 63},
		{zero, 0, 512, 264},
		{zero, 255, 512, 41},
		{zero, 256, 512, 97},
		{zero, 511, 512, 72},
		{zero, 0, 513, 461},
		{zero, 256, 513, 209},
		{zero, 511, 513, 296},
		{zero, 512, 513, 500},
		{zero, 0, 65536, 45536},
		{zero, 255, 65536, 15023},
		{zero, 256, 65536, 30655},
		{zero, 65535, 65536, 47526},
		{zero, 0, 65537, 22428},
		{zero, 65535, 65537, 36962},
		{zero, 65536, 65537, 59482},
		{zero, 0, 16777216, 2644041},
		{zero, 65536, 16777216, 13188014},
		{zero, 16777215, 16777216, 4961634},
		{zero, 0, 4294967295, 2930987007},
		{zero, 65536, 4294967295, 3766268332},
		{zero, 16777216, 4294967295, 3406588085},
		{zero, 2147483648, 4294967295, 1635317088},
		{zero, 4294967294, 4294967295, 2154405219},
		{zero, 0, 4294967296, 657674370},
		{zero, 255, 4294967296, 1890703310},
		{zero, 65536, 4294967296, 4062965890},
		{zero, 16777217, 4294967296, 209704863},
		{zero, 2147483647, 4294967296, 2343989001},
		{zero, 4294967295, 4294967296, 2946939107},
		{three, 0, 16777216, 3330308},
		{three, 65536, 16777216, 6803143},
		{three, 16777215, 16777216, 3330307},
		{three, 0, 4294967295, 3638907583},
		{three, 65536, 4294967295, 1897288741},
		{three, 16777216, 4294967295, 4153063959},
		{three, 2147483648, 4294967295, 1718385108},
		{three, 4294967294, 4294967295, 3921736135},
		{three, 0, 4294967296, 4112249658},
		{three, 255, 4294967296, 3001573386},
		{three, 65536, 4294967296, 3270711443},
		{three, 16777217, 4294967296, 4167207827},
		{three, 2147483647, 4294967296, 3083681293},
		{three, 4294967295, 4294967296, 3310988170},
		{rising, 0, 255, 163},
		{rising, 100, 255, 8},
		{rising, 254, 255, 119},
		{rising, 0, 256, 254},
		{rising, 127, 256, 92},
		{rising, 255, 256, 170},
		{rising, 0, 257, 11},
		{rising, 255, 257, 0},
		{rising, 256, 257, 77},
		{rising, 0, 512, 139},
		{rising, 255, 512, 172},
		{rising, 256, 512, 123},
		{rising, 511, 512, 367},
		{rising, 0, 513, 347},
		{rising, 256, 513, 141},
		{rising, 511, 513, 72},
		{rising, 512, 513, 376},
		{rising, 0, 65536, 16994},
		{rising, 255, 65536, 9460},
		{rising, 256, 65536, 14681},
		{rising, 65535, 65536, 7901},
		{rising, 0, 65537, 16958},
		{rising, 65535, 65537, 28499},
		{rising, 65536, 65537, 18827},
		{rising, 0, 16777216, 3091271},
		{rising, 65536, 16777216, 10681063},
		{rising, 16777215, 16777216, 11489708},
		{rising, 0, 4294967295, 3815932849},
		{rising, 65536, 4294967295, 2120570480},
		{rising, 16777216, 4294967295, 2377401748},
		{rising, 2147483648, 4294967295, 842325565},
		{rising, 4294967294, 4294967295, 762419400},
		{rising, 0, 4294967296, 2913204967},
		{rising, 255, 4294967296, 3856868668},
		{rising, 65536, 4294967296, 3856933949},
		{rising, 16777217, 4294967296, 2874871454},
		{rising, 2147483647, 4294967296, 179261868},
		{rising, 4294967295, 4294967296, 2326745516},
		{full, 0, 16777216, 6735708},
		{full, 65536, 16777216, 469566},
		{full, 16777215, 16777216, 12200985},
		{full, 0, 4294967295, 1444139186},
		{full, 65536, 4294967295, 2162014215},
		{full, 16777216, 4294967295, 1795426052},
		{full, 2147483648, 4294967295, 983243406},
		{full, 4294967294, 4294967295, 1444139187},
		{full, 0, 4294967296, 1874471960},
		{full, 255, 4294967296, 2308187951},
		{full, 65536, 4294967296, 1918560191},
		{full, 16777217, 4294967296, 16777217},
		{full, 2147483647, 4294967296, 2117816512},
		{full, 4294967295, 4294967296, 1709138603},
		{last, 0, 255, 223},
		{last, 100, 255, 220},
		{last, 254, 255, 179},
		{last, 0, 256, 226},
		{last, 127, 256, 114},
		{last, 255, 256, 38},
		{last, 0, 257, 173},
		{last, 255, 257, 245},
		{last, 256, 257, 239},
		{last, 0, 512, 36},
		{last, 255, 512, 77},
		{last, 256, 512, 502},
		{last, 511, 512, 118},
		{last, 0, 513, 354},
		{last, 256, 513, 418},
		{last, 511, 513, 429},
		{last, 512, 513, 108},
		{last, 0, 65536, 62319},
		{last, 255, 65536, 19245},
		{last, 256, 65536, 17905},
		{last, 65535, 65536, 4722},
		{last, 0, 65537, 10596},
		{last, 65535, 65537, 48635},
		{last, 65536, 65537, 43424},
		{last, 0, 16777216, 13826894},
		{last, 65536, 16777216, 7463541},
		{last, 16777215, 16777216, 7067109},
		{last, 0, 4294967295, 525764511},
		{last, 65536, 4294967295, 2601856116},
		{last, 16777216, 4294967295, 3130843281},
		{last, 2147483648, 4294967295, 227852313},
		{last, 4294967294, 4294967295, 477052281},
		{last, 0, 4294967296, 3811951473},
		{last, 255, 4294967296, 865274364},
		{last, 65536, 4294967296, 1469396128},
		{last, 16777217, 4294967296, 1732244050},
		{last, 2147483647, 4294967296, 2401584882},
		{last, 4294967295, 4294967296, 3729704742},
	} {
		wantPlace(t, known.i, known.n, known.seed, known.goal)
		wantBack(t, known.goal, known.n, known.seed, known.i)
	}
}

// Whole lists, whose element i is i: the hash of what is answered, eight bytes for each element, the lowest first.
func TestWholeLists(t *testing.T) {
	for _, known := range []struct {
		seed api.Root
		n    int
		hash string
	}{
		{zero, 255, "55d36864b7af5b285c15f4e943475364fd572267a2bf8efdfd393c0afe9a4755"},
		{zero, 256, "aef9b2865012623dcba4ef8dfe267d2da15de01d016919b91fbd7c102cd4e615"},
		{zero, 257, "fd2cb349f805810afe2ae47b841097a102d68a6f1babfb83c15a841b591c3631"},
		{zero, 700, "78646fe360d57415f0686d62db4db3a8cfcd6ab436dd6d9e309bdbbe352dcbd2"},
		{zero, 65536, "7d709835a882a659f63600a628bd6ffb12507435a357443f4c85a8bdad64e525"},
		{three, 255, "8650b9b61e6ad94762d96a139742c0a2c61af580a1d0cae96510495eedcf0361"},
		{three, 256, "2cfe89fa94cd1b8ed0617f213db8055b4a15d06ed4bf56d8913b97bbd47570b1"},
		{three, 257, "e3a530e5983c9093c51f8ab706ee8ab2fed710ac2558190bc2b53b4c3db89a13"},
		{three, 700, "e5a2f0a6bba8bde1bb4ab51f105910f282564f910a0fbe00d9fd76e789778af9"},
		{three, 65536, "dbbc129a3e5de7155fe36769e960620005ed55491830f1d2f61fe627084539ea"},
		{rising, 255, "460970e090301c68d47fa953343d7ca60d62c4f7684a79b9c4b05e24521b7c9d"},
		{rising, 256, "24b31d03fefc69f3ee8e794a941f348d882daa8cf04d507f7868528739da12ea"},
		{rising, 257, "8b81298f610cee28274ffb5220f1cc99425b6191c5fcfbb773316c0a583d1278"},
		{rising, 512, "536b92bf0179c9b07c88110c875229297008d35997c5b9b4c91ebc76ea220fbb"},
		{rising, 513, "7c03e4bb743fae4213a7e5e192f25f96f239661e797858956da94798376aac60"},
		{rising, 700, "62c325550631875c8fe0976a51cf0d31b2fc26dc1ace976827c015c829504938"},
		{rising, 65535, "f2b37b01e640bb1a1f271ed6a77e59ba1890960fb1bf69b92f0ca70aa4a28322"},
		{rising, 65536, "cb21f80637a0d8fd9a4126ec93e083c420a0b21028ce97c52c78611495481eea"},
		{full, 255, "5ccfd2e039882e2fa4dedff54ec4547bb08db2ae24ebaad6fb9eac2d4e9e4c32"},
		{full, 256, "c28910669ad5cae2c557caf9c499a60d4858cc7b97b1f583dc506333943d84a6"},
		{full, 257, "439d4d324c0f2c40740b28c9fe0854c66106462bfb6f8378bcc4736979ae0664"},
		{full, 700, "660c0b0191063059bdc7081dfcaf3f5c2c1a0ed7b9269560f172a95bd6d06efd"},
		{full, 65536, "6d67cd113dab4236e1e93ac72a9c19422639208f9f95dae3fdb5fdae5c0fae6b"},
		{last, 255, "8f5bb2857cec4beae60370600a6939f004563950d30c9db89a9b16316eb37810"},
		{last, 256, "13ed9ce0cb466cebd5bce396fb7055abdf11a06de59a20c9b39b2ae2111a7bfc"},
		{last, 257, "f42fbbe6a100475e3bf5c100742c88dba194ab1463be980b1ae055f1021f6740"},
		{last, 700, "16d5d7f3fc7b99cdd2e08c8225688c349afe8524802efe5889066e08cd1fae96"},
		{last, 65536, "8716bbb6988b0e6bf3ec8988460a6255a5dddfe3683d10d168a9147c5fec3b7d"},
	} {
		got, err := shuf.List(numbers(known.n), known.seed)
		var b []byte
		for _, x := range got {
			b = binary.LittleEndian.AppendUint64(b, x)
		}
		hash := sha256.Sum256(b)
		if err != api.OK || hex.EncodeToString(hash[:]) != known.hash {
			t.Errorf("List of %d numbers, seed %x: error %d, hash %x; want %s", known.n, known.seed, err, hash, known.hash)
		}
	}
}
