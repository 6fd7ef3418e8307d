// Package words: the document's words W1 and W2, which hold in every layer: how numbers are written, what a name is.
package words

import "sentinel/api"

// long is how many bytes a number is written in, where nothing else is said.
const long = 8

// Eight writes a number, the highest byte first.
func Eight(n int) []byte {
	b := make([]byte, long)
	for i := range b {
		b[long-1-i] = byte(n >> (8 * i))
	}
	return b
}

// Number reads up to eight bytes, the highest first; false: there are more, or it is more than an int holds.
func Number(b []byte) (int, bool) {
	if len(b) > long || len(b) == long && b[0] > 127 {
		return 0, false
	}
	n := 0
	for _, c := range b {
		n = n<<8 | int(c)
	}
	return n, true
}

// IsName tells whether a text may be a name.
func IsName(name string) bool {
	if len(name) == 0 || len(name) > api.MaxName {
		return false
	}
	for i := range len(name) {
		if name[i] < 33 || name[i] > 126 {
			return false
		}
	}
	return true
}

// IsPassword tells whether bytes may be a password.
func IsPassword(pass []byte) bool {
	return len(pass) <= api.MaxPass
}
