"""Clients run over bodies, and which values fit which kinds."""

from facestead.tries import is_form, is_rec, is_text, is_whole, tried


# The functions below tell what must fit so that a value does: a list of tuples
# (kind, value), or None where it does not fit, whatever it has in it.


def within_record(record, value):
    if not is_rec(value):
        return None
    had = dict(value[1])
    told = []
    for name in record.fields():
        field = record.field(name)
        if name in had:
            told.append((field[0], had[name]))
        elif field[2]:
            return None
    return told


def within_choice(choice, value):
    if not is_form(value):
        return None
    carried = choice.carried(value[1])
    if carried is None:
        return None if choice.shut() else []
    return [(carried, value[2])]


def within(face, title, value):
    if title == "num":
        return [] if is_whole(value) else None
    if title == "word":
        return [] if is_text(value) else None
    kind = face.kind(title)
    if kind.word() == "record":
        return within_record(kind, value)
    if kind.word() == "choice":
        return within_choice(kind, value)
    return []


# Values may be deeper than calls should go, so this is a loop.
def fits(face, kind, value):
    waiting = [(kind, value)]
    while waiting:
        one = waiting.pop()
        more = within(face, one[0], one[1])
        if more is None:
            return False
        waiting.extend(more)
    return True


def run(face, client, bodies):
    # A body may change the dict or the list that was handed in: it then changes
    # nothing here.
    kept_bodies = dict(bodies)
    values = []
    for at, row in enumerate(list(client)):
        end = tried(face, kept_bodies, values, row)
        if end[0] == "stuck":
            return ("stuck", at)
        if end[0] == "fault":
            return ("fault", end[1], at)
        values.append(end[1])
    return ("answer", values[-1] if values else None)
