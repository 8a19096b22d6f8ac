"""Yards: boards under names, with deeds that can be taken back."""

from boardsight.boards import made_board
from boardsight.errors import NoDeed, NoName, TooMany
from boardsight.trees import tree_of

MOST_LETTERS = 8
MOST_BOARDS = 6


def is_name(text):
    if not isinstance(text, str) or not 1 <= len(text) <= MOST_LETTERS:
        return False
    return all(["a" <= sign <= "z" for sign in text])


# What stands is never changed but replaced, so that taking a deed back is to let stand what stood before it.
class Yard:
    def __init__(self):
        self.standing = []
        self.past = []

    def do_deed(self, standing):
        self.past.append(self.standing)
        self.standing = standing

    def put(self, name, corners):
        if not is_name(name):
            raise NoName("a name has one to eight small letters")
        if name in self.names():
            raise NoName("a board has this name")
        board = made_board(corners)
        if len(self.standing) >= MOST_BOARDS:
            raise TooMany("a yard holds at most six boards")
        self.do_deed(self.standing + [(name, board)])

    def drop(self, name):
        place = self.place_of(name)
        self.do_deed(self.standing[:place] + self.standing[place + 1:])

    def back(self):
        if not self.past:
            raise NoDeed("no deed is left to take back")
        self.standing = self.past.pop()

    def settle(self):
        self.past = []

    def names(self):
        return [name for name, board in self.standing]

    def boards(self):
        return [board for name, board in self.standing]

    def place_of(self, name):
        names = self.names()
        if name not in names:
            raise NoName("no board has this name")
        return names.index(name)

    def deeds(self):
        return len(self.past)

    def tree(self):
        return tree_of(list(enumerate(self.boards())))
