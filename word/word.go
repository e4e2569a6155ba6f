// Package word: bytes, words and values.
package word

const (
	// Size is how many bytes a word has.
	Size = 2

	least    = -32768
	greatest = 32767
	turn     = 65536 // a value below 0 stands as itself plus this
)

// Clip takes the nearest value for a whole number.
func Clip(n int) int {
	if n < least {
		return least
	}
	if n > greatest {
		return greatest
	}
	return n
}

// Value is the value that the word of two bytes stands for.
func Value(high, low int) int {
	n := high*256 + low
	if n > greatest {
		return n - turn
	}
	return n
}

// Split is the two bytes of the word of a value, or of a number from 0 to 65535, the high one first.
func Split(v int) (int, int) {
	n := v
	if n < 0 {
		n += turn
	}
	return n / 256, n % 256
}

// Text is the word of a value, or of a number from 0 to 65535.
func Text(v int) string {
	high, low := Split(v)
	return string([]byte{byte(high), byte(low)})
}

// Byte is the byte at a place of a text, 0 if there is none: so no place can panic.
func Byte(s string, i int) int {
	if i < 0 || i >= len(s) {
		return 0
	}
	return int(s[i])
}

// Bytes is n bytes of a text, from a place on, as numbers.
func Bytes(s string, from, n int) []int {
	var l []int
	for i := 0; i < n; i++ {
		l = append(l, Byte(s, from+i))
	}
	return l
}

// Number is the number, from 0 to 65535, of the word at a place of a text.
func Number(s string, at int) int {
	high := Byte(s, at)
	low := Byte(s, at+1)
	return high*256 + low
}

// Part is n bytes of a text, from a place on; false if they reach beyond it.
func Part(s string, from, n int) (string, bool) {
	if from < 0 || n < 0 || from > len(s) || n > len(s)-from {
		return "", false
	}
	return s[from : from+n], true
}

// Padded is n bytes of a text, from a place on, with 0 where the text is over.
func Padded(s string, from, n int) string {
	var b []byte
	for i := 0; i < n; i++ {
		b = append(b, byte(Byte(s, from+i)))
	}
	return string(b)
}

// Values is the values of all words of a text.
func Values(s string) []int {
	var l []int
	for i := 0; i+Size <= len(s); i += Size {
		l = append(l, Value(int(s[i]), int(s[i+1])))
	}
	return l
}

// At is the value at a place of a list, 0 if there is none: so no place can panic.
func At(l []int, i int) int {
	if i < 0 || i >= len(l) {
		return 0
	}
	return l[i]
}

// Pick is the words of the values at some places of a list.
func Pick(l []int, places []int) string {
	s := ""
	for i := 0; i < len(places); i++ {
		v := At(l, places[i])
		s += Text(v)
	}
	return s
}
