"""The rows of clients: where things stand in them, and where names."""

# Where in a row things stand by themselves, and where in tuples (name, thing).
THINGS_AT = {"plus": (1,), "glue": (1,), "form": (3,), "get": (1,), "getor": (1, 3), "take": (1, 3), "sort": (1, 3)}
NAMED_AT = {"call": (3, 4), "make": (2,), "sort": (2,)}


def named_parts(row):
    return [row[at] for at in NAMED_AT.get(row[0], ())]


def names_of(part):
    return [name for name, thing in part]


def used_things(row):
    things = [row[at] for at in THINGS_AT.get(row[0], ())]
    if row[0] == "call":
        things.extend(row[2])
    for part in named_parts(row):
        things.extend([thing for name, thing in part])
    # a sort may have no z
    return [thing for thing in things if thing is not None]


# The row that uses things[x] wherever this one uses x.
def with_things(row, things):
    changed = list(row)
    for at in THINGS_AT.get(row[0], ()):
        if row[at] is not None:
            changed[at] = things[row[at]]
    for at in NAMED_AT.get(row[0], ()):
        changed[at] = tuple([(name, things[thing]) for name, thing in row[at]])
    if row[0] == "call":
        changed[2] = tuple([things[thing] for thing in row[2]])
    return tuple(changed)
