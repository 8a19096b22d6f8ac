"""What several test files need: numbers of many figures, boards drawn by a seeded draw, refusals."""

from fractions import Fraction

from boardsight.boards import made_board
from boardsight.errors import NoBoard, SightError
from boardsight.spots import made_spot

# Two thousand figures each: the most that is handed in.
MANY = 10 ** 2000 - 1
MANY_TOO = 10 ** 1999 + 7


def number_of(fraction):
    return Fraction(fraction[0], fraction[1])


def numbers_of(spot):
    return tuple(Fraction(number, spot[3]) for number in spot[:3])


def flat(pairs, z=0, w=1):
    return [made_spot(x, y, z, w) for x, y in pairs]


def flat_board(pairs, z=0, w=1):
    return made_board(flat(pairs, z, w))


def drawn_spot(draw, reach=9, most_w=3):
    numbers = [draw.randint(-reach, reach) for _ in range(3)]
    return made_spot(numbers[0], numbers[1], numbers[2], draw.randint(1, most_w))


def drawn_board(draw, reach=6, most_w=3, most_corners=5):
    while True:
        start, across, up = [[draw.randint(-reach, reach) for _ in range(3)] for _ in range(3)]
        w = draw.randint(1, most_w)
        corners = []
        for _ in range(draw.randint(3, most_corners)):
            u, v = draw.randint(-3, 3), draw.randint(-3, 3)
            x, y, z = [start[k] + u * across[k] + v * up[k] for k in range(3)]
            corners.append(made_spot(x, y, z, w))
        try:
            return made_board(corners)
        except NoBoard:
            continue


def refusal_of(deed, *given):
    try:
        deed(*given)
    except SightError as refusal:
        return refusal
    return None


def refused_with(kind, deed, *given):
    return isinstance(refusal_of(deed, *given), kind)
