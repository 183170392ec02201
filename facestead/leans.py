"""The face that a client leans on: what it uses of a face, and no more."""

from facestead.faces import Face
from facestead.looks import bound, kinds_of
from facestead.rows import names_of

# The kinds of what these rows make, whatever the face.
GIVEN = {"num": "num", "plus": "num", "word": "word", "glue": "word"}


def own_kind(row):
    return row[1] if row[0] in ("make", "form") else GIVEN.get(row[0])


# A tie is a tuple (key, thing): things that are tied by one key are in one class.


def call_ties(face, at, row):
    answers = [at] + [thing for fault, thing in row[4]]
    ties = [(("back", row[1]), thing) for thing in answers]
    return ties + [(("place", row[1], name), thing) for name, thing in bound(face, row)]


def sort_ties(at, row):
    things = [at] + [thing for form, thing in row[2]]
    if row[3] is not None:
        things.append(row[3])
    return [(("sort", at), thing) for thing in things]


def first_ties(face, client):
    ties = []
    for at, row in enumerate(client):
        kind = own_kind(row)
        if kind is not None:
            ties.append((("kind", kind), at))
        if row[0] in ("plus", "glue"):
            ties.append((("kind", kind), row[1]))
        if row[0] == "call":
            ties.extend(call_ties(face, at, row))
        if row[0] == "sort":
            ties.extend(sort_ties(at, row))
    return ties


# The ties by what a class has: marks tells of each thing a mark of its class.
def row_part_ties(marks, at, row):
    if row[0] == "make":
        return [(("field", marks[at], name), thing) for name, thing in row[2]]
    if row[0] == "form":
        return [(("form", marks[at], row[2]), row[3])]
    if row[0] == "get":
        return [(("field", marks[row[1]], row[2]), at)]
    if row[0] == "getor":
        return [(("field", marks[row[1]], row[2]), thing) for thing in (at, row[3])]
    if row[0] == "take":
        return [(("form", marks[row[1]], row[2]), thing) for thing in (at, row[3])]
    return []


def part_ties(marks, client):
    ties = []
    for at, row in enumerate(client):
        ties.extend(row_part_ties(marks, at, row))
    return ties


# A class is marked by its first row; firsts has this mark for each thing.
def put_together(firsts, one, other):
    marks = (firsts[one], firsts[other])
    for thing in range(len(firsts)):
        if firsts[thing] in marks:
            firsts[thing] = min(marks)


# Whether there was something to put together.
def tie_up(firsts, ties):
    heads = {}
    changed = False
    for key, thing in ties:
        head = heads.setdefault(key, thing)
        if firsts[head] != firsts[thing]:
            put_together(firsts, head, thing)
            changed = True
    return changed


# Classes that have come together may have fields or forms that then do so too.
def first_rows(face, client):
    firsts = list(range(len(client)))
    tie_up(firsts, first_ties(face, client))
    while tie_up(firsts, part_ties(firsts, client)):
        pass
    return firsts


# What the class of each thing is called.
def class_kinds(face, client):
    firsts = first_rows(face, client)
    called = {}
    for at, row in enumerate(client):
        kind = own_kind(row)
        if kind is not None:
            called[firsts[at]] = kind
    return [called.get(first, "#" + str(first)) for first in firsts]


def function_piece(face, kinds, client, calls):
    rows = [client[at] for at in calls]
    bindings = [dict(bound(face, row)) for row in rows]
    handed = {}
    caught = []
    for binding, row in zip(bindings, rows):
        handed.update(binding)
        caught.extend(names_of(row[4]))
    places = []
    for name, kind, due in face.function(rows[0][1])[3]:
        if name in handed:
            places.append((name, kinds[handed[name]], all([name in binding for binding in bindings])))
    plain = max([len(row[2]) for row in rows])
    faults = tuple(sorted(set(caught)))
    return ("function", rows[0][1], plain, tuple(places), kinds[calls[0]], faults)


def function_pieces(face, kinds, client):
    calls = {}
    for at, row in enumerate(client):
        if row[0] == "call":
            calls.setdefault(row[1], []).append(at)
    return [function_piece(face, kinds, client, calls[name]) for name in calls]


# By kind, and by the name of the part: the kind of what is tied to it.
def tied_parts(word, kinds, client):
    parts = {}
    for key, thing in part_ties(kinds, client):
        if key[0] == word:
            named = parts.setdefault(key[1], {})
            named[key[2]] = kinds[thing]
    return parts


def record_piece(kind, fields, makes, got):
    parts = []
    for name in fields:
        due = makes != [] and all([name in given for given in makes])
        parts.append((name, fields[name], due, (kind, name) in got))
    return ("record", kind, makes != [], tuple(parts))


def record_pieces(kinds, client):
    fields = tied_parts("field", kinds, client)
    for row in client:
        if row[0] == "make":
            fields.setdefault(row[1], {})
    got = [(kinds[row[1]], row[2]) for row in client if row[0] == "get"]
    pieces = []
    for kind in fields:
        makes = [names_of(row[2]) for row in client if row[0] == "make" and row[1] == kind]
        pieces.append(record_piece(kind, fields[kind], makes, got))
    return pieces


def choice_pieces(kinds, client):
    forms = tied_parts("form", kinds, client)
    for row in client:
        if row[0] == "sort":
            kind = kinds[row[1]]
            told = forms.setdefault(kind, {})
            for form in names_of(row[2]):
                told.setdefault(form, kind + "." + form)
    made = [row[1] for row in client if row[0] == "form"]
    shut = [kinds[row[1]] for row in client if row[0] == "sort" and row[3] is None]
    return [("choice", kind, kind in made, kind in shut, tuple(forms[kind].items())) for kind in forms]


def leans(face, client):
    # refuses a client that the face does not let by
    kinds_of(face, client)
    kinds = class_kinds(face, client)
    pieces = function_pieces(face, kinds, client) + record_pieces(kinds, client) + choice_pieces(kinds, client)
    return Face(pieces)
