"""The desk: a yard, and rows of words that are answered by words."""

from boardsight.errors import NoText
from boardsight.frames import made_frame
from boardsight.orders import order_from
from boardsight.sights import does_hide
from boardsight.texts import fraction_text, read_fraction, read_spot, read_three_wholes
from boardsight.trees import pieces_of
from boardsight.views import seen_at
from boardsight.ways import stretch_of
from boardsight.yards import Yard, is_name

# Behind the first word of each row: what its other words are. A row for a board has any number of spots.
KINDS = {
    "drop": ("name",),
    "back": (),
    "hides": ("name", "name", "spot"),
    "order": ("spot",),
    "pieces": (),
    "seen": ("spot", "spot", "arrow", "arrow", "fraction", "fraction"),
    "stretch": ("name", "name", "spot", "spot"),
}


def kinds_of(words):
    if words[0] == "board" and len(words) > 2:
        return ("name",) + ("spot",) * (len(words) - 2)
    if words[0] not in KINDS or len(KINDS[words[0]]) != len(words) - 1:
        raise NoText(0)
    return KINDS[words[0]]


def read_word(kind, word):
    if kind == "spot":
        return read_spot(word)
    if kind == "arrow":
        return read_three_wholes(word)
    if kind == "fraction":
        return read_fraction(word)
    if not is_name(word):
        raise NoText(0)
    return word


# The first word, and behind it what the others tell.
def read_row(row):
    if not isinstance(row, str):
        raise NoText(0)
    words = row.split(" ")
    told = words[:1] + [read_word(kind, word) for kind, word in zip(kinds_of(words), words[1:])]
    if told[0] == "stretch" and told[3] == told[4]:
        raise NoText(0)
    return told


def answer_board(yard, told):
    yard.put(told[1], told[2:])
    return "ok"


def answer_drop(yard, told):
    yard.drop(told[1])
    return "ok"


def answer_back(yard, told):
    yard.back()
    return "ok"


# Looked up ahead of all else, so that NoName goes ahead of what the functions refuse.
def two_boards(yard, told):
    places = [yard.place_of(told[1]), yard.place_of(told[2])]
    return [yard.boards()[place] for place in places]


def answer_hides(yard, told):
    pair = two_boards(yard, told)
    return "yes" if does_hide(pair[0], pair[1], told[3]) else "no"


def answer_order(yard, told):
    found = order_from(yard.boards(), told[1])
    names = yard.names()
    return " ".join([found[0]] + [names[place] for place in found[1]])


def answer_pieces(yard, told):
    return str(len(pieces_of(yard.tree())))


def answer_seen(yard, told):
    frame = made_frame(told[1], told[2], told[3], told[4])
    place = seen_at(frame, yard.boards(), (told[5], told[6]))
    return "-" if place is None else yard.names()[place]


def answer_stretch(yard, told):
    pair = two_boards(yard, told)
    found = stretch_of(pair[0], pair[1], (told[3], told[4]))
    if found[0] == "never":
        return "never"
    return fraction_text(found[1]) + " " + fraction_text(found[2])


ANSWERS = {
    "board": answer_board,
    "drop": answer_drop,
    "back": answer_back,
    "hides": answer_hides,
    "order": answer_order,
    "pieces": answer_pieces,
    "seen": answer_seen,
    "stretch": answer_stretch,
}


class Desk:
    def __init__(self):
        self.yard = Yard()

    def say(self, row):
        told = read_row(row)
        return ANSWERS[told[0]](self.yard, told)
