package sums

// Ones is the sum of ones of bytes.
func Ones(b string) uint16 {
	var sum uint64
	for i := 0; i < len(b); i += 2 {
		sum += uint64(b[i]) << 8
		if i+1 < len(b) {
			sum += uint64(b[i+1])
		}
	}
	return ^folded(sum)
}

// Patch is what a sum of ones becomes, where a word of the bytes becomes another one.
func Patch(sum, old, fresh uint16) uint16 {
	return ^folded(uint64(^sum) + uint64(^old) + uint64(fresh))
}

// folded is a sum of words, with what stands above its lowest 16 bits added to these.
func folded(sum uint64) uint16 {
	for sum > 0xFFFF {
		sum = sum>>16 + sum&0xFFFF
	}
	return uint16(sum)
}
