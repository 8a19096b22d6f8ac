"""What several test files need: numbers of many figures, refusals."""

from fractions import Fraction

from boardsight.errors import SightError
from boardsight.spots import made_spot

# Two thousand figures each: the most that is handed in.
MANY = 10 ** 2000 - 1
MANY_TOO = 10 ** 1999 + 7


def number_of(fraction):
    return Fraction(fraction[0], fraction[1])


def numbers_of(spot):
    return tuple(Fraction(number, spot[3]) for number in spot[:3])


def drawn_spot(draw, reach=9, most_w=3):
    numbers = [draw.randint(-reach, reach) for _ in range(3)]
    return made_spot(numbers[0], numbers[1], numbers[2], draw.randint(1, most_w))


def refusal_of(deed, *given):
    try:
        deed(*given)
    except SightError as refusal:
        return refusal
    return None


def refused_with(kind, deed, *given):
    return isinstance(refusal_of(deed, *given), kind)
