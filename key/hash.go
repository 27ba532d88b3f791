package key

// FNV-1a of 64 bits, and what its bits are mixed by.
const (
	offset = 14695981039346656037
	prime  = 1099511628211
	mixer  = 0xff51afd7ed558ccd
)

// Hash answers a number of b that is another one at each level.
func Hash(b []byte, level int) uint64 {
	h := step(offset, byte(level))
	for _, c := range b {
		h = step(h, c)
	}
	return fold(fold(h) * mixer)
}

func step(h uint64, c byte) uint64 { return (h ^ uint64(c)) * prime }

func fold(h uint64) uint64 { return h ^ h>>33 }

// Part answers which of many parts b is in, 0 where there are none.
func Part(b []byte, level, many int) int {
	if many < 1 {
		return 0
	}
	return int(Hash(b, level) % uint64(many))
}
