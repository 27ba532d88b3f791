package key_test

import (
	"bytes"
	"hash/fnv"
	"math"
	"math/big"
	"math/rand"
	"strings"
	"testing"

	"aqueduct/api"
	"aqueduct/key"
)

// word is 2 to the 64th.
var word = new(big.Int).Lsh(big.NewInt(1), 64)

func whole(n uint64) *big.Int { return new(big.Int).SetUint64(n) }

// mixed reckons in numbers without ends: x beside what a division by 2 to the 33rd leaves of it.
func mixed(x uint64) uint64 {
	half := func(n *big.Int) *big.Int { return n.Xor(n, new(big.Int).Div(n, big.NewInt(1<<33))) }
	n := half(whole(x))
	n.Mul(n, whole(0xff51afd7ed558ccd))
	return half(n.Mod(n, word)).Uint64()
}

// hashed reckons by the library's FNV-1a.
func hashed(b []byte, level int) uint64 {
	h := fnv.New64a()
	h.Write([]byte{byte(((level % 256) + 256) % 256)})
	h.Write(b)
	return mixed(h.Sum64())
}

// slow reckons FNV-1a in numbers without ends, too.
func slow(b []byte, level int) uint64 {
	h, _ := new(big.Int).SetString("14695981039346656037", 10)
	prime, _ := new(big.Int).SetString("1099511628211", 10)
	lowest := new(big.Int).Mod(big.NewInt(int64(level)), big.NewInt(256))
	for _, c := range append([]byte{byte(lowest.Int64())}, b...) {
		h.Xor(h, big.NewInt(int64(c)))
		h.Mod(h.Mul(h, prime), word)
	}
	return mixed(h.Uint64())
}

func wantHash(t *testing.T, b []byte, level int, want uint64) {
	t.Helper()
	if got := key.Hash(b, level); got != want {
		t.Fatalf("Hash of %.50x, level %d: %#x, want %#x", b, level, got, want)
	}
}

func wantPart(t *testing.T, b []byte, level, many, want int) {
	t.Helper()
	if got := key.Part(b, level, many); got != want {
		t.Fatalf("Part of %.50x, level %d, of %d: %d, want %d", b, level, many, got, want)
	}
}

// TestHashesThatAreKnown has numbers that were reckoned elsewhere.
func TestHashesThatAreKnown(t *testing.T) {
	var each []byte
	for c := range 256 {
		each = append(each, byte(c))
	}
	for _, x := range []struct {
		b     string
		level int
		hash  uint64
		part3 int
		part8 int
		part  int // of 1000003
	}{
		{"", 0, 0x9091d60726574ae6, 0, 6, 576016},
		{"", 1, 0x34e9f27a2a0e313f, 1, 7, 157957},
		{"", 4, 0x58433858487e49dd, 2, 5, 873748},
		{"", 255, 0xaf9baf0b40b2142d, 1, 5, 216015},
		{"", 256, 0x9091d60726574ae6, 0, 6, 576016},
		{"", -1, 0xaf9baf0b40b2142d, 1, 5, 216015},
		{"\x00", 0, 0x9bf1ace3400183e7, 1, 7, 713347},
		{"a", 0, 0x8876020da6802643, 2, 3, 518357},
		{"a", 1, 0xbf419d1b8f72dac9, 0, 1, 578812},
		{"a", 4, 0x59a8356df21437c7, 2, 7, 3876},
		{"ab", 0, 0x9447914fe87893f3, 0, 3, 372998},
		{"ba", 0, 0x83c183c785bb6f05, 1, 5, 398722},
		{"oobar", 'f', 0x6916ce8b48d4bc55, 0, 5, 133844},
		{"oobar", 0, 0x48347fd0dc2e5336, 1, 6, 526648},
		{"\xff\xff\xff\xff\xff\xff\xff\xff", 2, 0xfbb0f8ee032be27d, 2, 5, 124220},
		{string(each), 3, 0xfe9ea6a0e10fe2bb, 2, 3, 571759},
		{strings.Repeat("a", 65536), 0, 0xfdc5819b1eff2221, 0, 1, 197164},
	} {
		b := []byte(x.b)
		wantHash(t, b, x.level, x.hash)
		wantPart(t, b, x.level, 3, x.part3)
		wantPart(t, b, x.level, 8, x.part8)
		wantPart(t, b, x.level, 1000003, x.part)
	}
}

// TestMixIsBehindFnv1a has a sum of FNV-1a that is known: of "foobar", whose first byte is the level.
func TestMixIsBehindFnv1a(t *testing.T) {
	wantHash(t, []byte("oobar"), 'f', mixed(0x85944171f73967e8))
	wantHash(t, nil, 'a', mixed(0xaf63dc4c8601ec8c))
}

func TestHashOfNoBytes(t *testing.T) {
	for level := -300; level < 600; level++ {
		wantHash(t, nil, level, slow(nil, level))
		wantHash(t, []byte{}, level, slow(nil, level))
		wantHash(t, []byte("behind")[:0], level, slow(nil, level))
	}
}

// TestLevels has the lowest byte of a level alone matter, and each of its bits.
func TestLevels(t *testing.T) {
	for _, b := range [][]byte{nil, {0}, []byte("a"), []byte("a longer one")} {
		seen := map[uint64]bool{}
		for level := range 256 {
			h := key.Hash(b, level)
			seen[h] = true
			for _, other := range []int{level + 256, level - 256, level + 1<<16, level + 1<<32, level + math.MinInt, level + math.MaxInt - 255} {
				wantHash(t, b, other, h)
			}
		}
		if len(seen) != 256 {
			t.Errorf("%d hashes of 256 levels", len(seen))
		}
	}
	wantHash(t, []byte("a"), -1, key.Hash([]byte("a"), 255))
	wantHash(t, []byte("a"), math.MinInt, key.Hash([]byte("a"), 0))
	wantHash(t, []byte("a"), math.MaxInt, key.Hash([]byte("a"), 255))
}

// TestHashAgainstItsDefinition reckons it in two other ways.
func TestHashAgainstItsDefinition(t *testing.T) {
	r := rand.New(rand.NewSource(64))
	for range 20000 {
		b := make([]byte, r.Intn(40))
		r.Read(b)
		level := int(int64(r.Uint64()) >> r.Intn(64))
		want := slow(b, level)
		if other := hashed(b, level); other != want {
			t.Fatalf("%x, %d: %#x and %#x", b, level, other, want)
		}
		wantHash(t, b, level, want)
		many := 1 + int(r.Uint64()>>1)>>r.Intn(63)
		wantPart(t, b, level, many, int(new(big.Int).Mod(whole(want), big.NewInt(int64(many))).Int64()))
	}
	long := bytes.Repeat([]byte("\x00\xfflong"), 1<<14)
	wantHash(t, long, 3, hashed(long, 3))
}

// TestPart has few and many, also where a hash is beyond the greatest int.
func TestPart(t *testing.T) {
	beyond := 0
	for i := range 500 {
		b := key.Encode(row(i32(int64(i))), nil)
		for level := range api.MaxLevel + 1 {
			h := slow(b, level)
			if h > math.MaxInt64 {
				beyond++
			}
			wantPart(t, b, level, 1, 0) // the chapter's example
			for _, many := range []int{2, 3, 5, 6, 7, 8, 10, 16, 100, 255, 256, 257, 1000, 1<<31 - 1, 1 << 31, 1<<32 + 1, math.MaxInt - 1, math.MaxInt} {
				wantPart(t, b, level, many, int(new(big.Int).Mod(whole(h), whole(uint64(many))).Int64()))
			}
			for _, many := range []int{0, -1, -2, -3, -7, -256, math.MinInt32, math.MinInt + 1, math.MinInt} {
				wantPart(t, b, level, many, 0)
			}
		}
	}
	if beyond < 500 {
		t.Error(beyond)
	}
}

func TestPartOfNoBytes(t *testing.T) {
	for _, many := range []int{1, 0, -1, math.MinInt} {
		wantPart(t, nil, 0, many, 0)
		wantPart(t, []byte{}, -1, many, 0)
	}
	wantPart(t, nil, 1, 10, 7)
	wantPart(t, nil, -1, 10, 3)
}

// TestPartsAreParted has keys of one part at one level lie in many at the next.
func TestPartsAreParted(t *testing.T) {
	const many = 8
	var counts [many][many]int
	for i := range 6400 {
		b := key.Encode(row(i64(int64(i))), nil)
		counts[key.Part(b, 0, many)][key.Part(b, 1, many)]++
	}
	for i := range counts {
		for j, n := range counts[i] {
			if n < 50 || n > 150 {
				t.Errorf("part %d, and then %d: %d of 6400", i, j, n)
			}
		}
	}
}

// TestHashChangesNothing has bytes with room behind them, which is neither asked nor changed.
func TestHashChangesNothing(t *testing.T) {
	room := []byte("bytes and room")
	b := room[:5]
	h, n := key.Hash(b, 2), key.Part(b, 2, 1000)
	if string(room) != "bytes and room" {
		t.Errorf("%q", room)
	}
	copy(room[5:], "something else")
	wantHash(t, b, 2, h)
	wantPart(t, b, 2, 1000, n)
	wantHash(t, []byte("bytes"), 2, h)
}
