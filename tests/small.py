"""Small faces and small clients, for tests that try many of them."""

import itertools

from facestead.errors import NoFace
from facestead.faces import Face
from facestead.looks import bound, kinds_of, lets_by
from facestead.texts import read_face

KINDS = ["num", "word", "a", "b", "c", "#1"]
NAMES = ["p", "q", "r"]


def face(*rows):
    return read_face("\n".join(rows))


def used(row):
    """The things that a row uses."""
    if row[0] in ["num", "word"]:
        return []
    if row[0] == "call":
        return list(row[2]) + [thing for part in row[3:] for name, thing in part]
    if row[0] == "make":
        return [thing for name, thing in row[2]]
    if row[0] == "form":
        return [row[3]]
    things = [row[1]] + ([thing for form, thing in row[2]] if row[0] == "sort" else [])
    return things + [z for z in row[3:] if z is not None]


# Two faces and a client


def alike(one, other, client):
    """Whether both faces let the client by, each call bound alike."""
    if not lets_by(one, client) or not lets_by(other, client):
        return False
    return all(bound(one, row) == bound(other, row) for row in client if row[0] == "call")


def pairs_of(one, other, client):
    return list(zip(kinds_of(one, client), kinds_of(other, client)))


# All rows that a face lets by over things of these kinds: each way to write one,
# but for the numbers and texts in it.


def things_of(kinds, kind):
    return [at for at, told in enumerate(kinds) if told == kind]


def ways(parts, kinds):
    """Each way to give things by name to parts (name, kind, due), those that are due always."""
    choices = [[(name, at) for at in things_of(kinds, kind)] + ([] if due else [None])
               for name, kind, due in sorted(parts)]
    for chosen in itertools.product(*choices):
        yield tuple([part for part in chosen if part is not None])


def all_calls(face, kinds):
    for word, name, *told in face.pieces():
        if word == "function":
            plain, places, back, faults = told
            for count in range(plain + 1):
                by_place = itertools.product(*[things_of(kinds, place[1]) for place in places[:count]])
                by_name = ways(places[count:], kinds)
                caught = ways([(fault, back, False) for fault in faults], kinds)
                for three in itertools.product(by_place, by_name, caught):
                    yield ("call", name) + three


def all_made(face, kinds):
    for piece in face.pieces():
        if piece[0] == "record" and piece[2]:
            for given in ways([field[:3] for field in piece[3]], kinds):
                yield ("make", piece[1], given)
        if piece[0] == "choice" and piece[2]:
            for form, kind in piece[4]:
                for x in things_of(kinds, kind):
                    yield ("form", piece[1], form, x)


def all_looks(face, kinds):
    for x, kind in enumerate(kinds):
        if kind in ["num", "word"]:
            yield ("plus", x, 1) if kind == "num" else ("glue", x, "a")
        for piece in face.pieces():
            if piece[:2] == ("record", kind):
                for name, told, due, sure in piece[3]:
                    if sure:
                        yield ("get", x, name)
                    for z in things_of(kinds, told):
                        yield ("getor", x, name, z)
            if piece[:2] == ("choice", kind):
                for form, told in piece[4]:
                    for z in things_of(kinds, told):
                        yield ("take", x, form, z)
                yield from all_sorts(x, piece, kinds)


def all_sorts(x, piece, kinds):
    for end in sorted(set(kinds)):
        for arms in ways([(form, end, False) for form, kind in piece[4]], kinds):
            if arms:
                for z in things_of(kinds, end):
                    yield ("sort", x, arms, z)
                if piece[3] and len(arms) == len(piece[4]):
                    yield ("sort", x, arms, None)


def all_rows(face, kinds):
    yield ("num", 0)
    yield ("word", "")
    yield from all_calls(face, kinds)
    yield from all_made(face, kinds)
    yield from all_looks(face, kinds)


def reached(elder, newer):
    """The reached pairs; None where the elder lets by a client that the newer does not, or binds otherwise.

    Found as the words say it: whether a row is let by hangs on the kinds of the things it uses alone, so all rows
    are tried over a client that has a thing of each pair so far, until no row gives a new one."""
    client, pairs = [], []
    grown = True
    while grown:
        grown = False
        for row in all_rows(elder, [pair[0] for pair in pairs]):
            if not alike(elder, newer, client + [row]):
                return None
            pair = pairs_of(elder, newer, client + [row])[-1]
            if pair not in pairs:
                client, pairs, grown = client + [row], pairs + [pair], True
                break
    return sorted(pairs)


def all_clients(face, rows):
    """All clients of at most so many rows that the face lets by."""
    yield []
    layer = [[]]
    for turn in range(rows):
        layer = [client + [row] for client in layer for row in all_rows(face, kinds_of(face, client))]
        yield from layer


# Faces and clients by chance; chance is a random.Random that is handed in.


def some_parts(chance, part):
    names = chance.sample(NAMES, chance.randrange(len(NAMES)))
    return tuple([(name,) + part() for name in names])


def some_kind(chance):
    return chance.choice(KINDS)


def truth(chance, often=0.5):
    return chance.random() < often


def some_piece(chance):
    word = chance.choice(["record", "choice", "function", "function"])
    if word == "record":
        made = truth(chance)
        fields = some_parts(chance, lambda: (some_kind(chance), made and truth(chance, 0.3), truth(chance)))
        return ("record", chance.choice("abc"), made, fields)
    if word == "choice":
        forms = some_parts(chance, lambda: (some_kind(chance),))
        return ("choice", chance.choice("abc"), truth(chance), truth(chance), forms)
    places = some_parts(chance, lambda: (some_kind(chance), truth(chance, 0.3)))
    faults = tuple(chance.sample(["u", "v"], chance.randrange(2)))
    plain = chance.randrange(len(places) + 1)
    return ("function", chance.choice("fghi"), plain, places, chance.choice(KINDS[2:] + KINDS), faults)


def face_or_none(pieces):
    try:
        return Face(pieces)
    except NoFace:
        return None


def some_face(chance, most=8):
    pieces = []
    for turn in range(chance.randrange(most + 1)):
        piece = some_piece(chance)
        if face_or_none(pieces + [piece]) is not None:
            pieces.append(piece)
    return Face(pieces)


def changed_value(chance, value):
    """Something like the value, which is a part of a piece, with a change in one place."""
    if isinstance(value, bool):
        return not value
    if isinstance(value, int):
        return value + chance.choice([-1, 1])
    if isinstance(value, str):
        return chance.choice(KINDS + NAMES)
    value = list(value)
    turn = chance.randrange(4)
    if turn == 0 and value:
        value.pop(chance.randrange(len(value)))
    elif turn == 1 and value:
        value.append(chance.choice(value))
    elif turn == 2:
        chance.shuffle(value)
    if value:
        at = chance.randrange(len(value))
        value[at] = changed_value(chance, value[at])
    return tuple(value)


def has_form(piece):
    lengths = {"record": 4, "choice": 5, "function": 6}
    if lengths.get(piece[0]) != len(piece) or not isinstance(piece[1], str):
        return False
    samples = {"record": (True, (("", "", True, True),)), "choice": (True, True, (("", ""),)),
               "function": (0, (("", "", True),), "", ("",))}
    return all(same_form(value, sample) for value, sample in zip(piece[2:], samples[piece[0]]))


def same_form(value, sample):
    if isinstance(sample, tuple):
        if not isinstance(value, tuple):
            return False
        if sample and isinstance(sample[0], tuple):
            return all(same_form(part, sample[0]) and len(part) == len(sample[0]) for part in value)
        if len(sample) == 1:
            return all(isinstance(part, str) for part in value)
        return len(value) == len(sample) and all(same_form(part, told) for part, told in zip(value, sample))
    return type(value) is type(sample)


def renamed(value, one, other):
    """The value with the text other wherever the text one stands in it."""
    if isinstance(value, tuple):
        return tuple([renamed(part, one, other) for part in value])
    return other if value == one else value


def changed_pieces(chance, pieces):
    way = chance.randrange(8)
    if way == 0 and pieces:
        pieces.pop(chance.randrange(len(pieces)))
    elif way == 1 or not pieces:
        pieces.append(some_piece(chance))
    elif way == 2:
        one, other = chance.choice("abc"), chance.choice(KINDS + ["#2", "#3.ok"])
        often = chance.choice([0.5, 1])
        pieces = [renamed(piece, one, other) if truth(chance, often) else piece for piece in pieces]
    else:
        at = chance.randrange(len(pieces))
        pieces[at] = pieces[at][:2] + changed_value(chance, pieces[at][2:])
    return pieces


def changed_face(chance, face, changes=1):
    for turn in range(changes):
        found = None
        while found is None:
            pieces = changed_pieces(chance, face.pieces())
            found = face_or_none(pieces) if all(map(has_form, pieces)) else None
        face = found
    return face


def some_client(chance, face, rows):
    client = []
    for turn in range(rows):
        found = list(all_rows(face, kinds_of(face, client)))
        word = chance.choice(sorted({row[0] for row in found}))
        client.append(chance.choice([row for row in found if row[0] == word]))
    return client
