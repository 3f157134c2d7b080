package impl

// octet is a byte of the console. A uint8 wraps round at 256, below nought too,
// so whatever int comes in is cut down to a byte by the conversion alone.
type octet uint8

// place is an address, which wraps round at 65536 in the same way.
type place uint16

// flags is a set of what is told of an octet beside its number.
type flags uint8

// The bits are those of the processor's byte of flags, which leaves out 8 to 64:
// so a set is that byte as it stands.
const (
	carryFlag flags = 1 << iota
	zeroFlag
	maskFlag
	signFlag flags = 1 << 7
)

func (f flags) has(wanted flags) bool { return f&wanted != 0 }

// plus adds in 16 bits, where what goes above 255 is still to be seen.
func (o octet) plus(other octet, carry bool) (octet, flags) {
	sum := uint16(o) + uint16(other)
	if carry {
		sum++
	}
	var told flags
	if sum > 255 {
		told = carryFlag
	}
	return octet(sum), told
}

// minus adds the complement: 255 less the other one, so the carry that comes in
// spares the one less, and the carry that goes out says "not below 0".
func (o octet) minus(other octet, carry bool) (octet, flags) {
	return o.plus(^other, carry)
}

func (o octet) signs() flags {
	var told flags
	if o == 0 {
		told |= zeroFlag
	}
	if o > 127 {
		told |= signFlag
	}
	return told
}

func (o octet) join(hi octet) place {
	return place(o) | place(hi)<<8
}

func Byte(x int) int { return int(octet(x)) }

func Addr(x int) int { return int(place(x)) }

func isByte(x int) bool { return x == Byte(x) }

func Add8(a int, b int, carry bool) (int, bool) {
	sum, told := octet(a).plus(octet(b), carry)
	return int(sum), told.has(carryFlag)
}

func Sub8(a int, b int, carry bool) (int, bool) {
	rest, told := octet(a).minus(octet(b), carry)
	return int(rest), told.has(carryFlag)
}

func Signs(x int) (bool, bool) {
	told := octet(x).signs()
	return told.has(zeroFlag), told.has(signFlag)
}

func Join(lo int, hi int) int { return int(octet(lo).join(octet(hi))) }
