"""A face: what a part of a program shows, made of pieces."""

from facestead.errors import NoFace
from facestead.kinds import Bare, Choice, Record, is_kind, is_name

# Every face has these kinds, so no piece may tell them.
GIVEN_KINDS = ("num", "word")


def are_names(names):
    return all([is_name(name) for name in names]) and len(set(names)) == len(names)


# A kind may stand in many pieces, and long texts take long to look at: so what
# is_kind told of a text is kept in looked, a dict.
def tells_kind(looked, text):
    if text not in looked:
        looked[text] = is_kind(text)
    return looked[text]


def are_parts(looked, parts):
    return are_names([part[0] for part in parts]) and all([tells_kind(looked, part[1]) for part in parts])


def is_told_kind(looked, title, made):
    if title in GIVEN_KINDS or not tells_kind(looked, title):
        return False
    return is_name(title) or not made


# A client that makes a record may leave out what is not due, so that can't be
# sure; where clients make none there is nothing that they could owe.
def may_be_field(made, due, sure):
    if made:
        return due or not sure
    return not due


def is_record(looked, title, made, fields):
    if not is_told_kind(looked, title, made) or not are_parts(looked, fields):
        return False
    return all([may_be_field(made, field[2], field[3]) for field in fields])


def is_choice(looked, title, made, forms):
    return is_told_kind(looked, title, made) and are_parts(looked, forms)


def is_function(looked, name, plain, places, back, faults):
    if not is_name(name) or not tells_kind(looked, back):
        return False
    if plain < 0 or plain > len(places):
        return False
    return are_parts(looked, places) and are_names(faults)


def is_piece(looked, piece):
    if piece[0] == "record":
        return is_record(looked, piece[1], piece[2], piece[3])
    if piece[0] == "choice":
        return is_choice(looked, piece[1], piece[2], piece[4])
    return is_function(looked, piece[1], piece[2], piece[3], piece[4], piece[5])


# No two parts of a piece have one name, so the names alone settle their order.
def by_names(parts):
    return tuple(sorted(parts))


def settled(piece):
    if piece[0] == "record":
        return piece[:3] + (by_names(piece[3]),)
    if piece[0] == "choice":
        return piece[:4] + (by_names(piece[4]),)
    plain = piece[2]
    places = piece[3][:plain] + by_names(piece[3][plain:])
    return piece[:3] + (places, piece[4], by_names(piece[5]))


class Face:
    def __init__(self, pieces):
        self.told_kinds = {}
        self.told_functions = {}
        looked = {}
        for at, piece in enumerate(pieces):
            told = self.told_functions if piece[0] == "function" else self.told_kinds
            if piece[1] in told or not is_piece(looked, piece):
                raise NoFace(at)
            told[piece[1]] = settled(piece)

    def pieces(self):
        told = list(self.told_kinds.values()) + list(self.told_functions.values())
        return sorted(told, key=lambda piece: piece[:2])

    # A new object each time, so that none is shared between two who ask.
    def kind(self, title):
        piece = self.told_kinds.get(title)
        if piece is None:
            return Bare(title)
        if piece[0] == "record":
            return Record(title, piece[2], piece[3])
        return Choice(title, piece[2], piece[3], piece[4])

    def function(self, name):
        return self.told_functions.get(name)
