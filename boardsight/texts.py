"""Texts: spots, fractions and yards as they are written and read."""

from boardsight.errors import NoText, SightError
from boardsight.wholes import in_lowest_terms
from boardsight.yards import Yard

FIGURES = "0123456789"
MOST_FIGURES = 30
PIECE_FIGURES = 64


# A number below the power of this place, with noughts ahead up to the power's count of noughts.
def padded_figures(number, powers, place):
    if place == 0:
        return str(number).zfill(PIECE_FIGURES)
    halves = divmod(number, powers[place - 1])
    return padded_figures(halves[0], powers, place - 1) + padded_figures(halves[1], powers, place - 1)


# By pieces, since Python writes out no number of more than some thousand figures.
def whole_text(number):
    powers = [10 ** 64]
    while powers[-1] <= abs(number):
        powers.append(powers[-1] * powers[-1])
    figures = padded_figures(abs(number), powers, len(powers) - 1).lstrip("0")
    if number == 0:
        return "0"
    return figures if number > 0 else "-" + figures


def over_bottom(text, bottom):
    return text if bottom == 1 else text + "/" + whole_text(bottom)


def spot_text(spot):
    return over_bottom(",".join([whole_text(number) for number in spot[:3]]), spot[3])


def fraction_text(one):
    return over_bottom(whole_text(one[0]), one[1])


def yard_text(yard):
    rows = []
    for name, board in zip(yard.names(), yard.boards()):
        rows.append(" ".join(["board", name] + [spot_text(corner) for corner in board]))
    return "\n".join(rows)


def read_whole(text):
    figures = text[1:] if text.startswith("-") else text
    if not 1 <= len(figures) <= MOST_FIGURES or not all([sign in FIGURES for sign in figures]):
        raise NoText(0)
    if figures[0] == "0" and text != "0":
        raise NoText(0)
    return int(text)


def read_three_wholes(text):
    numbers = tuple([read_whole(word) for word in text.split(",")])
    if len(numbers) != 3:
        raise NoText(0)
    return numbers


# The numbers and, behind them, the bottom of a text with or without a slash.
def with_bottom(numbers, slash, text):
    if slash == "":
        return numbers + (1,)
    told = numbers + (read_whole(text),)
    if told[-1] <= 1 or in_lowest_terms(told) != told:
        raise NoText(0)
    return told


def read_spot(text):
    parts = text.partition("/")
    return with_bottom(read_three_wholes(parts[0]), parts[1], parts[2])


def read_fraction(text):
    parts = text.partition("/")
    return with_bottom((read_whole(parts[0]),), parts[1], parts[2])


def put_row(yard, row):
    words = row.split(" ")
    if words[0] != "board" or len(words) < 3:
        raise NoText(0)
    yard.put(words[1], [read_spot(word) for word in words[2:]])


def read_yard(text):
    yard = Yard()
    rows = [] if text == "" else text.split("\n")
    for number, row in enumerate(rows):
        try:
            put_row(yard, row)
        except SightError:
            raise NoText(number)
    yard.settle()
    return yard
