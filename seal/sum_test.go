package seal_test

import (
	"bytes"
	"hash/crc32"
	"testing"

	"aqueduct/seal"
)

// slow is the chapter's sum, a bit a step.
func slow(b []byte) uint32 {
	s := ^uint32(0)
	for _, c := range b {
		for i := range 8 {
			low := (s ^ uint32(c)>>i) & 1
			s = s>>1 ^ low*0x82F63B78
		}
	}
	return ^s
}

func wantSum(t *testing.T, b []byte, want uint32) {
	t.Helper()
	if s := seal.Sum(b); s != want {
		t.Errorf("Sum of %d bytes: %#x, want %#x", len(b), s, want)
	}
}

func TestSumThatIsKnown(t *testing.T) {
	wantSum(t, []byte("123456789"), 0xe3069283)
	wantSum(t, nil, 0)
	wantSum(t, []byte{}, 0)
	wantSum(t, []byte("a"), 0xc1d04330)
	wantSum(t, make([]byte, 32), 0x8a9136aa)
	wantSum(t, bytes.Repeat([]byte{255}, 32), 0x62a8ab43)
}

func TestSumOfEachByte(t *testing.T) {
	for c := range 256 {
		b := []byte{byte(c)}
		wantSum(t, b, slow(b))
		b = []byte{1, byte(c), 2, 3, 4, 5}
		wantSum(t, b, slow(b))
	}
}

func TestSumOfEachLength(t *testing.T) {
	b := noise(4100, 1)
	for n := range b {
		wantSum(t, b[:n], crc32.Checksum(b[:n], crc32.MakeTable(crc32.Castagnoli)))
	}
	wantSum(t, b, slow(b))
	if !bytes.Equal(b, noise(4100, 1)) {
		t.Error("Sum changed what was handed in")
	}
}
