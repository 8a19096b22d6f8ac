"""Whole numbers: what divides them, their signs, and determinants."""

# Above this many bits a step over the whole numbers costs more than one over their leading bits.
SHORT_BITS = 2000
LEADING_BITS = 120


def sign_of(number):
    if number > 0:
        return 1
    if number < 0:
        return -1
    return 0


# The steps of Euclid that are already certain from the leading bits, as a matrix (Lehmer's way):
# numbers of many thousand figures would else take seconds.
def certain_steps(great, small):
    shift = great.bit_length() - LEADING_BITS
    x = great >> shift
    y = small >> shift
    a = 1
    b = 0
    c = 0
    d = 1
    while y + c != 0 and y + d != 0:
        quotient = (x + a) // (y + c)
        if quotient != (x + b) // (y + d):
            break
        rest = x - quotient * y
        x = y
        y = rest
        rest = a - quotient * c
        a = c
        c = rest
        rest = b - quotient * d
        b = d
        d = rest
    return (a, b, c, d)


def greatest_divisor(one, other):
    great = max(abs(one), abs(other))
    small = min(abs(one), abs(other))
    while small.bit_length() > SHORT_BITS:
        steps = certain_steps(great, small)
        if steps[1] == 0:
            rest = great % small
            great = small
        else:
            rest = steps[2] * great + steps[3] * small
            great = steps[0] * great + steps[1] * small
        small = rest
    while small != 0:
        rest = great % small
        great = small
        small = rest
    return great


# Not all of the numbers are 0.
def in_lowest_terms(numbers):
    divisor = 0
    for number in numbers:
        divisor = greatest_divisor(divisor, number)
        if divisor == 1:
            return tuple(numbers)
    return tuple([number // divisor for number in numbers])


def crossed(one, other):
    return (
        one[1] * other[2] - one[2] * other[1],
        one[2] * other[0] - one[0] * other[2],
        one[0] * other[1] - one[1] * other[0],
    )


def determinant(one, other, third):
    arrow = crossed(one, other)
    return arrow[0] * third[0] + arrow[1] * third[1] + arrow[2] * third[2]
