"""One row of a client, tried: it gives a value, ends by a fault, or sticks."""

from facestead.looks import bound

# Each try is told as ("value", value), ("fault", name), as bodies answer, or so:
STUCK = ("stuck",)


def is_whole(value):
    return isinstance(value, int) and not isinstance(value, bool)


def is_text(value):
    return isinstance(value, str)


def is_rec(value):
    return isinstance(value, tuple) and value[0] == "rec"


def is_form(value):
    return isinstance(value, tuple) and value[0] == "form"


# The functions below try a row; the values of the things ahead are in the list
# values.


def try_given(values, row):
    return ("value", row[1])


def try_plus(values, row):
    value = values[row[1]]
    return ("value", value + row[2]) if is_whole(value) else STUCK


def try_glue(values, row):
    value = values[row[1]]
    return ("value", value + row[2]) if is_text(value) else STUCK


# The names in given rise, as those of a record's fields must.
def try_make(values, row):
    return ("value", ("rec", tuple([(name, values[thing]) for name, thing in row[2]])))


def try_form(values, row):
    return ("value", ("form", row[2], values[row[3]]))


def try_get(values, row):
    value = values[row[1]]
    if not is_rec(value):
        return STUCK
    fields = dict(value[1])
    return ("value", fields[row[2]]) if row[2] in fields else STUCK


def try_getor(values, row):
    value = values[row[1]]
    if not is_rec(value):
        return STUCK
    return ("value", dict(value[1]).get(row[2], values[row[3]]))


def try_take(values, row):
    value = values[row[1]]
    if not is_form(value):
        return STUCK
    return ("value", value[2] if value[1] == row[2] else values[row[3]])


def try_sort(values, row):
    value = values[row[1]]
    if not is_form(value):
        return STUCK
    thing = dict(row[2]).get(value[1], row[3])
    return STUCK if thing is None else ("value", values[thing])


TRIES = {
    "num": try_given, "word": try_given, "plus": try_plus, "glue": try_glue, "make": try_make, "form": try_form,
    "get": try_get, "getor": try_getor, "take": try_take, "sort": try_sort,
}


def try_call(face, bodies, values, row):
    body = bodies[row[1]]
    answer = body(dict([(name, values[thing]) for name, thing in bound(face, row)]))
    caught = dict(row[4])
    if answer[0] == "fault" and answer[1] in caught:
        return ("value", values[caught[answer[1]]])
    return answer


def tried(face, bodies, values, row):
    if row[0] == "call":
        return try_call(face, bodies, values, row)
    attempt = TRIES[row[0]]
    return attempt(values, row)
