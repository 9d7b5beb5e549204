package row

// long is a number from 0 on, of any length: its digits to the base 1<<32, the least one first, and the last one not 0.
type long []uint32

const digit = 32 // bits

// times is a*n, for an n from 0 to 1<<32 - 1.
func (a long) times(n int) long {
	out := make(long, 0, len(a)+1)
	carry := uint64(0)
	for _, d := range a {
		carry += uint64(d) * uint64(n)
		out = append(out, uint32(carry))
		carry >>= digit
	}
	return append(out, uint32(carry)).cut()
}

// plus is a+b.
func (a long) plus(b long) long {
	out := make(long, 0, max(len(a), len(b))+1)
	carry := uint64(0)
	for i := range max(len(a), len(b)) {
		carry += a.at(i) + b.at(i)
		out = append(out, uint32(carry))
		carry >>= digit
	}
	return append(out, uint32(carry)).cut()
}

// minus is a-b, for a b that is not greater than a.
func (a long) minus(b long) long {
	out := make(long, 0, len(a))
	borrow := uint64(0)
	for i := range a {
		d := 1<<digit + a.at(i) - b.at(i) - borrow
		out = append(out, uint32(d))
		borrow = 1 - d>>digit
	}
	return out.cut()
}

// over is a/n rounded down, and what is left, for an n from 1 to 1<<32 - 1.
func (a long) over(n int) (long, int) {
	out := make(long, len(a))
	left := uint64(0)
	for i := len(a) - 1; i >= 0; i-- {
		left = left<<digit + uint64(a[i])
		out[i] = uint32(left / uint64(n))
		left %= uint64(n)
	}
	return out.cut(), int(left)
}

// compare is above 0, 0 or below 0, as a-b is.
func (a long) compare(b long) int {
	for i := max(len(a), len(b)) - 1; i >= 0; i-- {
		if a.at(i) != b.at(i) {
			if a.at(i) < b.at(i) {
				return -1
			}
			return 1
		}
	}
	return 0
}

// small is a as an int, if it has at most one digit.
func (a long) small() (int, bool) {
	if len(a) > 1 {
		return 0, false
	}
	return int(a.at(0)), true
}

// at is the digit in the place i, which is 0 behind the last one.
func (a long) at(i int) uint64 {
	if i >= len(a) {
		return 0
	}
	return uint64(a[i])
}

// cut is a without digits 0 at its end.
func (a long) cut() long {
	for len(a) > 0 && a[len(a)-1] == 0 {
		a = a[:len(a)-1]
	}
	return a
}
