"""Which clients a face lets by, the kinds of their things, and how calls are bound."""

from facestead.errors import NoClient
from facestead.rows import named_parts, names_of, used_things


def rise(names):
    return all([name < later for name, later in zip(names, names[1:])])


def is_in_form(row, ahead):
    if not all([0 <= thing < ahead for thing in used_things(row)]):
        return False
    return all([rise(names_of(part)) for part in named_parts(row)])


def bound(face, row):
    places = face.function(row[1])[3]
    by_place = [(place[0], thing) for place, thing in zip(places, row[2])]
    return tuple(by_place) + tuple(row[3])


# The functions below tell the kind of what a row makes, or None where the face
# does not let it by. The kinds of the things ahead are in the list kinds; which
# rows a row uses, and that its names rise, has been looked at.


def num_kind(face, kinds, row):
    return "num"


def word_kind(face, kinds, row):
    return "word"


def plus_kind(face, kinds, row):
    return "num" if kinds[row[1]] == "num" else None


def glue_kind(face, kinds, row):
    return "word" if kinds[row[1]] == "word" else None


# Names by_name rise, so a name that stands twice is one bound by place too.
def may_be_bound(places, pairs, kinds):
    names = names_of(pairs)
    if len(set(names)) != len(names):
        return False
    place_kinds = dict([(name, kind) for name, kind, due in places])
    if not all([place_kinds.get(name) == kinds[thing] for name, thing in pairs]):
        return False
    return all([name in names for name, kind, due in places if due])


def call_kind(face, kinds, row):
    piece = face.function(row[1])
    if piece is None or len(row[2]) > piece[2]:
        return None
    back = piece[4]
    if not may_be_bound(piece[3], bound(face, row), kinds):
        return None
    if not all([fault in piece[5] and kinds[thing] == back for fault, thing in row[4]]):
        return None
    return back


def field_kind(kind, name):
    field = kind.field(name)
    return None if field is None else field[0]


def make_kind(face, kinds, row):
    kind = face.kind(row[1])
    if kind.word() != "record" or not kind.makes():
        return None
    if not all([field_kind(kind, name) == kinds[thing] for name, thing in row[2]]):
        return None
    names = names_of(row[2])
    return row[1] if all([name in names for name in kind.dues()]) else None


# What is no choice carries nothing, and what is no record has no field: so
# below their words need not be asked for.


def form_kind(face, kinds, row):
    kind = face.kind(row[1])
    return row[1] if kind.makes() and kind.carried(row[2]) == kinds[row[3]] else None


def get_kind(face, kinds, row):
    field = face.kind(kinds[row[1]]).field(row[2])
    return field[0] if field is not None and field[2] else None


def getor_kind(face, kinds, row):
    told = field_kind(face.kind(kinds[row[1]]), row[2])
    return told if told == kinds[row[3]] else None


def take_kind(face, kinds, row):
    carried = face.kind(kinds[row[1]]).carried(row[2])
    return carried if carried == kinds[row[3]] else None


def sort_kind(face, kinds, row):
    choice = face.kind(kinds[row[1]])
    arms = names_of(row[2])
    if not arms or not all([choice.carried(form) is not None for form in arms]):
        return None
    # both lists rise, so they are equal where each form is an arm
    if row[3] is None and not (choice.shut() and arms == choice.forms()):
        return None
    ends = [kinds[thing] for form, thing in row[2]]
    if row[3] is not None:
        ends.append(kinds[row[3]])
    return ends[0] if all([kind == ends[0] for kind in ends]) else None


LOOKS = {
    "num": num_kind, "word": word_kind, "plus": plus_kind, "glue": glue_kind, "call": call_kind, "make": make_kind,
    "form": form_kind, "get": get_kind, "getor": getor_kind, "take": take_kind, "sort": sort_kind,
}


def row_kind(face, kinds, row):
    if not is_in_form(row, len(kinds)):
        return None
    look = LOOKS[row[0]]
    return look(face, kinds, row)


def kinds_of(face, client):
    kinds = []
    for at, row in enumerate(client):
        kind = row_kind(face, kinds, row)
        if kind is None:
            raise NoClient(at)
        kinds.append(kind)
    return kinds


def lets_by(face, client):
    try:
        kinds_of(face, client)
    except NoClient:
        return False
    return True
