// Package sum: the check on some bytes.
package sum

const (
	first = 65535
	turn  = 65536
	half  = 32768
	mask  = 0x1021
)

// Of is the sum of some bytes (P2).
func Of(s string) int {
	n := first
	for i := 0; i < len(s); i++ {
		n ^= int(s[i]) * 256
		n = eightTimes(n)
	}
	return n
}

// eightTimes does what follows each byte, once for each of its bits.
func eightTimes(n int) int {
	for k := 0; k < 8; k++ {
		great := n >= half
		n = n * 2 % turn
		if great {
			n ^= mask
		}
	}
	return n
}
