"""What a name is, which texts tell a kind, and what is told of a kind."""

LETTERS = "abcdefghijklmnopqrstuvwxyz"
FIGURES = "0123456789"
LONGEST_NAME = 12


def run_end(text, start, signs):
    end = start
    while end < len(text) and text[end] in signs:
        end += 1
    return end


# The three functions below tell where something ends that begins at start:
# start itself, where nothing of that form stands there.


def name_end(text, start):
    end = run_end(text, start, LETTERS)
    return end if end - start <= LONGEST_NAME else start


def number_end(text, start):
    end = run_end(text, start + 1, FIGURES)
    return end if end > start + 1 else start


def points_end(text, start):
    end = start
    while text[end:end + 1] == ".":
        behind = name_end(text, end + 1)
        if behind == end + 1:
            return end
        end = behind
    return end


def is_name(text):
    return text != "" and name_end(text, 0) == len(text)


# Brackets may stand in one another deeper than calls should go, so this is a
# loop: awaited keeps, for each bracket not yet at its end, the sign it lacks.
def is_kind(text):
    awaited = []
    at = 0
    while True:
        while text[at:at + 1] == "(":
            awaited.append("&")
            at += 1
        end = number_end(text, at) if text[at:at + 1] == "#" else name_end(text, at)
        if end == at:
            return False
        at = points_end(text, end)
        while awaited and awaited[-1] == ")" and text[at:at + 1] == ")":
            awaited.pop()
            at = points_end(text, at + 1)
        if not awaited:
            return at == len(text)
        if awaited[-1] != "&" or text[at:at + 1] != "&":
            return False
        awaited[-1] = ")"
        at += 1


# What no kind has by itself; the classes below tell what they have besides.
class Kind:
    def __init__(self, title):
        self.title = title

    def word(self):
        return "kind"

    def makes(self):
        return False

    def field(self, name):
        return None

    def carried(self, form):
        return None

    def fields(self):
        return []

    def dues(self):
        return []

    def forms(self):
        return []

    def shut(self):
        return False


class Bare(Kind):
    def word(self):
        return "bare"


# The parts of a record or a choice come sorted by name, as a face keeps them:
# so the lists of names rise.
class Record(Kind):
    def __init__(self, title, made, parts):
        Kind.__init__(self, title)
        self.made = made
        self.parts = parts

    def word(self):
        return "record"

    def makes(self):
        return self.made

    def field(self, name):
        for part in self.parts:
            if part[0] == name:
                return part[1:]
        return None

    def fields(self):
        return [part[0] for part in self.parts]

    def dues(self):
        return [part[0] for part in self.parts if part[2]]


class Choice(Kind):
    def __init__(self, title, made, closed, parts):
        Kind.__init__(self, title)
        self.made = made
        self.closed = closed
        self.parts = parts

    def word(self):
        return "choice"

    def makes(self):
        return self.made

    def carried(self, form):
        for part in self.parts:
            if part[0] == form:
                return part[1]
        return None

    def forms(self):
        return [part[0] for part in self.parts]

    def shut(self):
        return self.closed
