"""Faces as texts: a row for each piece, its words parted by one blank."""

from facestead.errors import NoFace, NoText
from facestead.faces import Face

MADE = {"made": True, "told": False}
SHUT = {"shut": True, "open": False}
DUE = {"due": True, "may": False}
# The truths due and sure of a field.
FLAGS = {"ds": (True, True), "d": (True, False), "s": (False, True), "-": (False, False)}


def flags_of(due, sure):
    flags = ("d" if due else "") + ("s" if sure else "")
    return flags if flags != "" else "-"


def record_words(piece):
    words = ["record", piece[1], "made" if piece[2] else "told"]
    for name, kind, due, sure in piece[3]:
        words.extend([name, kind, flags_of(due, sure)])
    return words


def choice_words(piece):
    words = ["choice", piece[1], "made" if piece[2] else "told", "shut" if piece[3] else "open"]
    for name, kind in piece[4]:
        words.extend([name, kind])
    return words


def function_words(piece):
    words = ["function", piece[1], str(piece[2]), piece[4]]
    for name, kind, due in piece[3]:
        words.extend([name, kind, "due" if due else "may"])
    return words + [":"] + list(piece[5])


def written_piece(piece):
    if piece[0] == "record":
        return " ".join(record_words(piece))
    if piece[0] == "choice":
        return " ".join(choice_words(piece))
    return " ".join(function_words(piece))


def written(face):
    return "\n".join([written_piece(piece) for piece in face.pieces()])


# The functions below read the words of one row to a piece: None, where they are
# not of its form. Names and kinds are left for the face to look at.


# The words in tuples of the given size, or None where some are left over.
def parted(words, size):
    if len(words) % size != 0:
        return None
    return [tuple(words[at:at + size]) for at in range(0, len(words), size)]


def read_record(words):
    fields = parted(words[3:], 3)
    if len(words) < 3 or fields is None or words[2] not in MADE:
        return None
    if not all([flags in FLAGS for name, kind, flags in fields]):
        return None
    told = tuple([(name, kind) + FLAGS[flags] for name, kind, flags in fields])
    return ("record", words[1], MADE[words[2]], told)


def read_choice(words):
    forms = parted(words[4:], 2)
    if len(words) < 4 or forms is None or words[2] not in MADE or words[3] not in SHUT:
        return None
    return ("choice", words[1], MADE[words[2]], SHUT[words[3]], tuple(forms))


# A plain greater than the number of places is refused with this very row by
# the face, so it need not be read: only the numbers up to that one are.
def read_plain(word, places):
    for plain in range(len(places) + 1):
        if word == str(plain):
            return plain
    return None


def read_function(words):
    if ":" not in words[4:]:
        return None
    end = words.index(":", 4)
    places = parted(words[4:end], 3)
    if places is None or not all([due in DUE for name, kind, due in places]):
        return None
    plain = read_plain(words[2], places)
    if plain is None:
        return None
    told = tuple([(name, kind, DUE[due]) for name, kind, due in places])
    return ("function", words[1], plain, told, words[3], tuple(words[end + 1:]))


def read_piece(row):
    words = row.split(" ")
    if words[0] == "record":
        return read_record(words)
    if words[0] == "choice":
        return read_choice(words)
    if words[0] == "function":
        return read_function(words)
    return None


def face_of_rows(pieces):
    try:
        return Face(pieces)
    except NoFace as refusal:
        raise NoText(refusal.at + 1) from None


def read_face(text):
    rows = text.split("\n") if text != "" else []
    pieces = []
    for row in rows:
        piece = read_piece(row)
        if piece is None:
            break
        pieces.append(piece)
    # Made before the row that is no piece is refused: a row ahead of it may be
    # one that the face refuses.
    face = face_of_rows(pieces)
    if len(pieces) < len(rows):
        raise NoText(len(pieces) + 1)
    return face
