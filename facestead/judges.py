"""The judge of two faces: whether the newer one may stand in for the elder one."""

from facestead.looks import bound, row_kind
from facestead.rows import used_things, with_things


# A client that both faces let by, each call bound alike, with one thing for each
# pair that has been reached. By the elder's kinds, first and last tell the first
# and the last thing of a kind: two things where the newer face does not give all
# of them one kind.
class Reach:
    def __init__(self, elder, newer):
        self.elder = elder
        self.newer = newer
        self.client = []
        self.elder_kinds = []
        self.newer_kinds = []
        self.first = {}
        self.last = {}
        self.reached = {}
        self.put_in(("num", 0))
        self.put_in(("word", ""))

    def pairs(self):
        return list(zip(self.elder_kinds, self.newer_kinds))

    def elder_kind(self, row):
        return row_kind(self.elder, self.elder_kinds, row)

    # None, too, where the newer face binds a call otherwise than the elder one.
    def newer_kind(self, row):
        kind = row_kind(self.newer, self.newer_kinds, row)
        if kind is not None and row[0] == "call" and bound(self.newer, row) != bound(self.elder, row):
            return None
        return kind

    # Whether the row shows that the newer face may not stand in for the elder.
    def is_shown_by(self, row):
        return self.elder_kind(row) is not None and self.newer_kind(row) is None

    def put_in(self, row):
        elder_kind = self.elder_kind(row)
        newer_kind = self.newer_kind(row)
        if (elder_kind, newer_kind) in self.reached:
            return
        thing = len(self.client)
        self.reached[(elder_kind, newer_kind)] = True
        self.first.setdefault(elder_kind, thing)
        self.last[elder_kind] = thing
        self.client.append(row)
        self.elder_kinds.append(elder_kind)
        self.newer_kinds.append(newer_kind)

    def elder_look(self, thing):
        return self.elder.kind(self.elder_kinds[thing])

    def ends(self, kind):
        return [things[kind] for things in (self.first, self.last) if kind in things]

    def unlike_kinds(self):
        return [kind for kind in self.first if self.first[kind] != self.last[kind]]


# A sketch is a row in which kinds of the elder face stand where things should.
# It can be drawn where there is a thing of each of these kinds.


def can_be_drawn(sketch, things):
    return all([kind in things for kind in used_things(sketch)])


def wanted(parts):
    return tuple(sorted([part[:2] for part in parts]))


def wanted_dues(parts):
    return wanted([part for part in parts if part[2]])


# What can be made of a piece, with no more than is due.
def least_sketches(piece):
    if piece[0] == "function":
        return [("call", piece[1], (), wanted_dues(piece[3]), ())]
    if not piece[2]:
        return []
    if piece[0] == "record":
        return [("make", piece[1], wanted_dues(piece[3]))]
    return [("form", piece[1], form, kind) for form, kind in piece[4]]


def sure_gets(reach, thing):
    look = reach.elder_look(thing)
    return [("get", thing, name) for name in look.fields() if look.field(name)[2]]


# Puts in a thing for each pair that can be reached. Only these rows lead to new
# pairs: what getor, take and sort make has the pair of a thing they use. Told is
# the first row that shows that the newer face may not stand in, or None.
def climb(reach):
    waiting = []
    for piece in reach.elder.pieces():
        waiting.extend(least_sketches(piece))
    looked_at = 0
    while looked_at < len(reach.client):
        rows = [with_things(sketch, reach.first) for sketch in waiting if can_be_drawn(sketch, reach.first)]
        waiting = [sketch for sketch in waiting if not can_be_drawn(sketch, reach.first)]
        for thing in range(looked_at, len(reach.client)):
            rows.extend(sure_gets(reach, thing))
        looked_at = len(reach.client)
        for row in rows:
            if reach.is_shown_by(row):
                return row
            reach.put_in(row)
    return None


# A call with all that there are things for. A face that lets by the call with no
# more than is due, and this one, bound alike, does so with all between them.
def widest_call(piece, things):
    places = piece[3]
    by_place = 0
    while by_place < piece[2] and places[by_place][1] in things:
        by_place += 1
    handed = tuple([place[1] for place in places[:by_place]])
    by_name = wanted([place for place in places[by_place:] if place[1] in things])
    caught = tuple([(fault, piece[4]) for fault in piece[5]])
    return ("call", piece[1], handed, by_name, caught)


# Drawn with the first and with the last things: where two things of one elder's
# kind differ in the newer face, it can't let by both.
def widest_calls(reach):
    rows = []
    for piece in reach.elder.pieces():
        if piece[0] == "function":
            sketch = widest_call(piece, reach.first)
            if can_be_drawn(sketch, reach.first):
                rows.extend([with_things(sketch, reach.first), with_things(sketch, reach.last)])
    return rows


def sorts(reach, thing):
    rows = []
    for kind in ["num"] + reach.unlike_kinds():
        arms = tuple([(form, reach.first[kind]) for form in reach.elder_look(thing).forms()])
        rows.append(("sort", thing, arms, reach.last[kind]))
        rows.append(("sort", thing, arms, None))
    return rows


# Rows that look into a thing or add to it; the elder face need not let them by.
# What is asked of a field that make gives, or of what form lets a choice carry,
# getor and take ask of what they made: so there are no widest ones of these.
def uses(reach, thing):
    rows = [("plus", thing, 0), ("glue", thing, "")]
    look = reach.elder_look(thing)
    for name in look.fields():
        rows.extend([("getor", thing, name, end) for end in reach.ends(look.field(name)[0])])
    for form in look.forms():
        rows.extend([("take", thing, form, end) for end in reach.ends(look.carried(form))])
    return rows + sorts(reach, thing)


def showing_row(reach):
    row = climb(reach)
    if row is not None:
        return row
    rows = widest_calls(reach)
    for thing in range(len(reach.client)):
        rows.extend(uses(reach, thing))
    for row in rows:
        if reach.is_shown_by(row):
            return row
    return None


def needed_things(client, row):
    needed = dict([(thing, True) for thing in used_things(row)])
    for at in range(len(client) - 1, -1, -1):
        if at in needed:
            needed.update([(thing, True) for thing in used_things(client[at])])
    return sorted(needed)


def shown_not(reach, row):
    things = needed_things(reach.client, row)
    numbers = dict([(thing, at) for at, thing in enumerate(things)])
    rows = [reach.client[thing] for thing in things] + [row]
    pairs = reach.pairs()
    return ("not", [with_things(each, numbers) for each in rows], [pairs[thing] for thing in things])


def judge(elder, newer):
    reach = Reach(elder, newer)
    row = showing_row(reach)
    if row is None:
        return ("may", reach.client, reach.pairs())
    return shown_not(reach, row)


def may_stand_in(elder, newer):
    return judge(elder, newer)[0] == "may"
