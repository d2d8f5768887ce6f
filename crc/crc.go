// Package crc is layer 1: see shared/doc/01-crc.md.
package crc

// The usual polynomial of 32 bits, its highest power left out and its bits turned round: the register is shifted towards its low end.
const polynomial = 0xEDB88320

// Sum is a text's sum.
//
// The empty text's sum is 0, so that every text stands behind that one.
func Sum(text string) int {
	return More(0, text)
}

// More is the sum of any text whose sum is the low 32 bits of sum, with the text behind it.
//
// A sum is the register with all bits the other ones: turned back, it goes on where that text ended.
func More(sum int, text string) int {
	register := ^uint32(sum)
	take := func(b byte) {
		register ^= uint32(b)
		for range 8 {
			register = step(register)
		}
	}
	for i := range len(text) {
		take(text[i])
	}
	return int(^register)
}

// Four is the low 32 bits of sum as four bytes, the highest first.
func Four(sum int) string {
	return string([]byte{byte(sum >> 24), byte(sum >> 16), byte(sum >> 8), byte(sum)})
}

func step(register uint32) uint32 {
	if register%2 == 1 {
		return register/2 ^ polynomial
	}
	return register / 2
}
