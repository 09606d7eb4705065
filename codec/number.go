package codec

const (
	// groupBits is how many bits a group has, a byte's lowest ones.
	groupBits = 7
	// more is the bit of a byte behind which another group stands.
	more = 1 << groupBits
	// mostGroups is how many groups 64 bits may need.
	mostGroups = 10
	// mostLast is the greatest tenth group: one bit of the 64 is left for it.
	mostLast = 1
)

// putNumber appends v's bytes to b.
func putNumber(b []byte, v int) []byte {
	u := folded(v)
	for u >= more {
		b = append(b, byte(u)|more)
		u >>= groupBits
	}
	return append(b, byte(u))
}

// firstNumber is the number at the beginning of b, and how many bytes it has: none, if no number begins there.
func firstNumber(b []byte) (int, int) {
	var u uint64
	for i, c := range b[:min(len(b), mostGroups)] {
		u |= uint64(c&^more) << (groupBits * i)
		if c&more != 0 {
			continue
		}
		// Each number has one way to be written: a last group of 0 would be one more than is needed.
		if i > 0 && c == 0 || i == mostGroups-1 && c > mostLast {
			return 0, 0
		}
		return unfolded(u), i + 1
	}
	return 0, 0
}

// folded lays the numbers below 0 between the others, so that few bytes do for what is near 0 on either side.
func folded(v int) uint64 {
	if v < 0 {
		return ^(uint64(v) << 1)
	}
	return uint64(v) << 1
}

// unfolded is the number that is folded so.
func unfolded(u uint64) int {
	if u&1 == 1 {
		return int(^(u >> 1))
	}
	return int(u >> 1)
}
