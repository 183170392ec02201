"""The meet of two faces: it lets by just what both let by, each call bound alike."""

from facestead.faces import Face
from facestead.kinds import is_name


def pair_kind(k, l):
    return k if k == l and is_name(k) else "(" + k + "&" + l + ")"


# Notes each pair whose kind is asked for, so that what is told of it can be told
# too: each once, in the order in which they came.
class Pairs:
    def __init__(self):
        self.noted = []
        self.kind_texts = {}

    def kind_for(self, k, l):
        if (k, l) not in self.kind_texts:
            self.noted.append((k, l))
            self.kind_texts[(k, l)] = pair_kind(k, l)
        return self.kind_texts[(k, l)]


def part_names(parts):
    return [part[0] for part in parts]


def by_their_names(parts):
    return dict([(part[0], part) for part in parts])


# Whether what is due in the one is there in the other, and the other way round.
def share_dues(ones, others):
    one_names = part_names(ones)
    other_names = part_names(others)
    dues = [part[0] for part in ones + others if part[2]]
    return all([name in one_names and name in other_names for name in dues])


def shared_plain(one, other):
    plain = 0
    while plain < min(one[2], other[2]) and one[3][plain][0] == other[3][plain][0]:
        plain += 1
    return plain


# In the order of the one: so the shared plain places stand first.
def shared_places(pairs, ones, others):
    twins = by_their_names(others)
    places = []
    for name, kind, due in ones:
        if name in twins:
            places.append((name, pairs.kind_for(kind, twins[name][1]), due or twins[name][2]))
    return tuple(places)


def shared_function(pairs, one, other):
    if not share_dues(one[3], other[3]):
        return None
    places = shared_places(pairs, one[3], other[3])
    back = pairs.kind_for(one[4], other[4])
    faults = tuple([fault for fault in one[5] if fault in other[5]])
    return ("function", one[1], shared_plain(one, other), places, back, faults)


def shared_record(pairs, one, other):
    made = one[1] == other[1] and one[2] and other[2] and share_dues(one[3], other[3])
    twins = by_their_names(other[3])
    fields = []
    for name, kind, due, sure in one[3]:
        if name in twins:
            twin = twins[name]
            fields.append((name, pairs.kind_for(kind, twin[1]), made and (due or twin[2]), sure and twin[3]))
    return ("record", pairs.kind_for(one[1], other[1]), made, tuple(fields))


def shared_choice(pairs, one, other):
    made = one[1] == other[1] and one[2] and other[2]
    # forms are sorted by name in every face
    shut = one[3] and other[3] and part_names(one[4]) == part_names(other[4])
    twins = by_their_names(other[4])
    forms = [(form, pairs.kind_for(kind, twins[form][1])) for form, kind in one[4] if form in twins]
    return ("choice", pairs.kind_for(one[1], other[1]), made, shut, tuple(forms))


SHARED = {"function": shared_function, "record": shared_record, "choice": shared_choice}


# What is told of two pieces, either of which may be None; None, where nothing is.
def shared_piece(pairs, one, other):
    if one is None or other is None or one[0] != other[0]:
        return None
    share = SHARED[one[0]]
    return share(pairs, one, other)


def told_kinds_of(face):
    return dict([(piece[1], piece) for piece in face.pieces() if piece[0] != "function"])


def meet(one, other):
    pairs = Pairs()
    ones = told_kinds_of(one)
    others = told_kinds_of(other)
    functions = [piece for piece in one.pieces() if piece[0] == "function"]
    pieces = [shared_piece(pairs, piece, other.function(piece[1])) for piece in functions]
    for k in ones:
        if is_name(k):
            pairs.kind_for(k, k)
    at = 0
    while at < len(pairs.noted):
        pair = pairs.noted[at]
        pieces.append(shared_piece(pairs, ones.get(pair[0]), others.get(pair[1])))
        at += 1
    return Face([piece for piece in pieces if piece is not None])
