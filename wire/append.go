package wire

// AppendName appends a name of 1 to MaxName bytes, behind how many it has.
func AppendName(bytes []byte, name string) []byte {
	return append(append(bytes, byte(len(name))), name...)
}

// AppendID appends an id.
func AppendID(bytes []byte, id uint16) []byte {
	return append(bytes, byte(id>>8), byte(id))
}

// AppendNumbers appends numbers, by their bits.
func AppendNumbers(bytes []byte, numbers ...uint32) []byte {
	for _, bits := range numbers {
		bytes = append(bytes, byte(bits>>24), byte(bits>>16), byte(bits>>8), byte(bits))
	}
	return bytes
}
