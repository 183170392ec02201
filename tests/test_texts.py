import itertools
import unittest

from facestead.errors import FaceError, NoClient, NoFace, NoMake, NoText
from facestead.faces import Face
from facestead.texts import read_face, written

THIRTEEN = "abcdefghijklm"
NO_NAMES = ["A", "a.b", "#3", "(a&b)", THIRTEEN, "a1", ":", "-"]
NO_KINDS = ["#", "a.", "A", "(a&b", "(a)", "#3.", THIRTEEN, "a&b", ":", "-"]

# each piece in the order of its parts, and the row that it is written as
FORMS = [
    (("record", "point", True, (("tag", "word", False, False), ("x", "num", True, True), ("y", "num", True, False))),
     "record point made tag word - x num ds y num d"),
    (("record", "#3.ok", False, (("age", "num", False, False), ("who", "person", False, True))),
     "record #3.ok told age num - who person s"),
    (("record", "a", True, ()), "record a made"),
    (("record", "(a&b)", False, ()), "record (a&b) told"),
    (("choice", "shape", True, False, (("blot", "(a&b).c"), ("circle", "point"), ("square", "num"))),
     "choice shape made open blot (a&b).c circle point square num"),
    (("choice", "bit", True, True, (("off", "#007"), ("on", "num"))), "choice bit made shut off #007 on num"),
    (("choice", "#07", False, True, (("yes", "num"),)), "choice #07 told shut yes num"),
    (("choice", "b", False, False, ()), "choice b told open"),
    (("choice", "c", False, True, ()), "choice c told shut"),
    (("function", "draw", 2, (("what", "shape", True), ("on", "point", False), ("ink", "word", True),
                              ("zoom", "num", False)), "#07", ("full", "late", "torn")),
     "function draw 2 #07 what shape due on point may ink word due zoom num may : full late torn"),
    (("function", "f", 0, (), "num", ()), "function f 0 num :"),
    (("function", "g", 0, (), "(a&b)", ("torn",)), "function g 0 (a&b) : torn"),
    (("function", "h", 0, (("x", "num", False), ("y", "word", True)), "word", ()),
     "function h 0 word x num may y word due :"),
    (("function", "i", 1, (("x", "num", True),), "word", ()), "function i 1 word x num due :"),
    (("function", "num", 1, (("word", "num", True),), "word", ("num",)), "function num 1 word word num due : num"),
]
PIECES = [piece for piece, row in FORMS]
RIGHT = ["record qa told", "choice qb told open", "function qc 0 num :"]


def many_places(count):
    return [("p" + "abcdefghijklmnopqrst"[at], "num", at % 2 == 0) for at in range(count)]


class Written(unittest.TestCase):
    def test_each_form_of_a_row(self):
        for piece, row in FORMS:
            self.assertEqual(written(Face([piece])), row)

    def test_the_face_without_pieces(self):
        self.assertEqual(written(Face([])), "")

    def test_rows_stand_in_the_order_of_pieces_with_line_ends_between(self):
        for pieces in [PIECES, PIECES[::-1], PIECES[5:] + PIECES[:5]]:
            rows = written(Face(pieces)).split("\n")
            self.assertEqual(rows, [dict(FORMS)[piece] for piece in Face(pieces).pieces()])
            self.assertEqual(len(rows), len(FORMS))
        self.assertEqual(written(Face([PIECES[10], PIECES[2], PIECES[7]])),
                         "choice b told open\nfunction f 0 num :\nrecord a made")

    def test_parts_are_written_sorted_but_plain_places(self):
        self.assertEqual(written(Face([
            ("record", "a", False, (("c", "num", False, True), ("b", "num", False, False))),
            ("choice", "b", True, True, (("c", "num"), ("b", "word"))),
            ("function", "c", 2, (("z", "num", False), ("y", "num", True), ("x", "num", True), ("w", "num", False)),
             "num", ("v", "u")),
        ])), "choice b made shut b word c num\n"
             "function c 2 num z num may y num due w num may x num due : u v\n"
             "record a told b num - c num s")

    def test_plain_of_two_figures(self):
        text = written(Face([("function", "f", 10, tuple(many_places(12)), "num", ())]))
        self.assertTrue(text.startswith("function f 10 num pa num due pb num may"))


class Read(unittest.TestCase):
    def test_each_form_of_a_row(self):
        for piece, row in FORMS:
            face = read_face(row)
            self.assertIsInstance(face, Face)
            self.assertEqual(face.pieces(), [piece])

    def test_the_text_without_signs(self):
        face = read_face("")
        self.assertIsInstance(face, Face)
        self.assertEqual(face.pieces(), [])

    def test_truths_and_plain_are_of_the_right_kinds(self):
        face = read_face("record a made b num ds c num -\nchoice d told shut\nfunction e 1 num f num due g num may :")
        self.assertIs(face.kind("a").makes(), True)
        self.assertEqual([type(truth) for truth in face.kind("a").field("b")[1:]], [bool, bool])
        self.assertEqual([type(truth) for truth in face.kind("a").field("c")[1:]], [bool, bool])
        self.assertIs(face.kind("d").makes(), False)
        self.assertIs(face.kind("d").shut(), True)
        self.assertIs(type(face.function("e")[2]), int)
        self.assertEqual([type(place[2]) for place in face.function("e")[3]], [bool, bool])

    def test_every_word_of_flags(self):
        truths = {"ds": (True, True), "d": (True, False), "s": (False, True), "-": (False, False)}
        for word, flags in [("made", "ds"), ("made", "d"), ("made", "-"), ("told", "s"), ("told", "-")]:
            row = "record a " + word + " b num " + flags
            face = read_face(row)
            self.assertEqual(face.kind("a").field("b"), ("num",) + truths[flags])
            self.assertEqual(face.kind("a").makes(), word == "made")
            self.assertEqual(written(face), row)

    def test_every_pair_of_words_of_a_choice(self):
        for made, shut in itertools.product(["made", "told"], ["shut", "open"]):
            row = "choice a " + made + " " + shut + " b num"
            face = read_face(row)
            self.assertEqual([face.kind("a").makes(), face.kind("a").shut()], [made == "made", shut == "shut"])
            self.assertEqual(written(face), row)

    def test_every_plain(self):
        for count in range(13):
            places = many_places(count)
            words = "".join([" " + name + " " + kind + (" due" if due else " may") for name, kind, due in places])
            for plain in range(count + 1):
                row = "function f " + str(plain) + " num" + words + " :"
                self.assertEqual(read_face(row).function("f"), ("function", "f", plain, tuple(places), "num", ()))
                self.assertEqual(written(read_face(row)), row)

    def test_rows_in_any_order(self):
        rows = [row for piece, row in FORMS]
        told = "\n".join([dict(FORMS)[piece] for piece in Face(PIECES).pieces()])
        for start in range(len(rows)):
            for order in [rows[start:] + rows[:start], rows[:start][::-1] + rows[start:]]:
                face = read_face("\n".join(order))
                self.assertEqual(face.pieces(), Face(PIECES).pieces())
                self.assertEqual(written(face), told)
        for order in itertools.permutations(rows[3:8]):
            self.assertEqual(read_face("\n".join(order)).pieces(), Face(PIECES[3:8]).pieces())

    def test_parts_in_any_order(self):
        fields = ["a num ds", "b word -", "c num d", "d (a&b) ds"]
        forms = ["a num", "b word", "c #1", "d (a&b)"]
        places = ["a num due", "b word may", "c #1 due", "d x may"]
        for head, parts, foot in [("record r made ", fields, ""), ("choice c told open ", forms, ""),
                                  ("function f 0 num ", places, " :"),
                                  ("function f 2 num z num may y num due ", places, " : e"),
                                  ("function f 0 num : ", ["a", "b", "c", "d"], "")]:
            row = head + " ".join(parts) + foot
            for order in itertools.permutations(parts):
                self.assertEqual(written(read_face(head + " ".join(order) + foot)), row)

    def test_plain_places_keep_their_order(self):
        places = ["a num due", "b word may", "c #1 due"]
        for order in itertools.permutations(places):
            row = "function f 3 num " + " ".join(order) + " :"
            self.assertEqual(written(read_face(row)), row)
        self.assertEqual([place[0] for place in read_face(
            "function f 2 num d num may c num may b num may a num may :").function("f")[3]], ["d", "c", "a", "b"])

    def test_written_and_read_and_written_again(self):
        faces = [Face([])] + [Face([piece]) for piece in PIECES] + [Face(PIECES[:at]) for at in range(len(PIECES) + 1)]
        for face in faces:
            again = read_face(written(face))
            self.assertEqual(again.pieces(), face.pieces())
            self.assertEqual(written(again), written(face))

    def test_a_large_face(self):
        letters = "abcdefghijklmnopqrst"
        forms = tuple([(letter, "(#1.a&" + "(b&c)" + ")") for letter in letters])
        pieces = []
        for one in letters[:11]:
            for two in letters[:10]:
                pieces.append(("choice", one + two, True, True, forms))
        face = Face(pieces)
        self.assertEqual(read_face(written(face)).pieces(), face.pieces())
        self.assertEqual(len(written(face).split("\n")), 110)

    def test_a_long_kind(self):
        kind = "#1"
        while len(kind) < 420:
            kind = "(" + kind + "&b)"
        row = "record " + kind + " told a " + kind + " s"
        self.assertEqual(written(read_face(row)), row)

    def test_told_lists_are_the_askers_own(self):
        face = read_face("\n".join(RIGHT))
        face.pieces().append("new")
        self.assertEqual(len(face.pieces()), 3)
        pieces = list(PIECES)
        other = Face(pieces)
        was = written(other)
        pieces.clear()
        other.pieces().clear()
        self.assertEqual(written(other), was)


class Refused(unittest.TestCase):
    def assert_at(self, rows, at):
        with self.assertRaises(NoText) as caught:
            read_face("\n".join(rows))
        self.assertEqual(caught.exception.at, at, rows)
        self.assertIsInstance(caught.exception, FaceError)
        self.assertNotIsInstance(caught.exception, (NoFace, NoClient, NoMake))

    def refused(self, *rows):
        # the last one of the rows, alone and with right and wrong rows round about
        rows = list(rows)
        malformed = "records a told"
        unfit = "record num told"
        self.assert_at(rows, len(rows))
        self.assert_at(RIGHT + rows, len(rows) + 3)
        self.assert_at(rows + RIGHT, len(rows))
        for wrong in [malformed, unfit]:
            self.assert_at(RIGHT + rows + [wrong] + RIGHT, len(rows) + 3)
            self.assert_at(RIGHT[:1] + [wrong] + RIGHT[1:] + rows, 2)

    def test_another_first_word(self):
        for word in ["records", "Record", "recor", "rec", "fields", "num", "#", "functions", "choices", ":"]:
            self.refused(word)
            self.refused(word + " a told")
            self.refused(word + " a told open")
            self.refused(word + " f 0 num :")
        self.refused("choice a told b num s")
        self.refused("record a told open")
        self.refused("function a told")
        self.refused("record f 0 num :")

    def test_a_word_more(self):
        for piece, row in FORMS:
            if piece[0] != "function":
                self.refused(row + " a")
                self.refused(row + " made")
        for row in ["function f 0 num a :", "function f 0 num a num due b :", "function f 0 num a num due b num :",
                    "function f 0 num num :", "function f 0 num a num due due :"]:
            self.refused(row)
        self.refused("record a made told")
        self.refused("record a b made")
        self.refused("choice a made shut open")
        self.refused("function f 0 num : :")
        self.refused("function f 0 num : a :")

    def test_a_word_gone(self):
        for row in ["record point made x num ds y num d", "choice shape made shut dot point blot num",
                    "function draw 1 num what shape due : torn"]:
            words = row.split(" ")
            for at in range(len(words) - (words[-1] == "torn")):
                self.refused(" ".join(words[:at] + words[at + 1:]))
        for row in ["record", "record a", "choice", "choice a", "choice a made", "function", "function f",
                    "function f 0", "function f 0 num", "function f 0 num a num due", "function : : :", "function :",
                    "function f : num", "function f 0 :", "function : : : :", ":"]:
            self.refused(row)

    def test_blanks(self):
        for piece, row in FORMS:
            self.refused(" " + row)
            self.refused(row + " ")
            self.refused(row + "   ")
            self.refused("   " + row)
            words = row.split(" ")
            for at in range(1, len(words)):
                for blanks in ["  ", "   ", "    "]:
                    self.refused(" ".join(words[:at]) + blanks + " ".join(words[at:]))
        for blanks in [" ", "  ", "   "]:
            self.refused(blanks)

    def test_words_run_together(self):
        for piece, row in FORMS[:10]:
            words = row.split(" ")
            for at in range(1, min(len(words), 4)):
                self.refused(" ".join(words[:at]) + " ".join(words[at:]))

    def test_a_row_without_signs(self):
        for rows, at in [(["", ""], 1), (["", "", ""], 1), ([""] + RIGHT, 1), ([RIGHT[0], "", RIGHT[1]], 2),
                         (RIGHT + [""], 4), ([RIGHT[0], ""], 2), (RIGHT + ["", ""], 4), (["record num told", ""], 1),
                         (["", "record num told"], 1), (["record a told", "record a told", ""], 2)]:
            self.assert_at(rows, at)
        self.refused(RIGHT[0].replace("qa", "a"), "")

    def test_another_word_for_a_truth(self):
        for word in ["Made", "make", "True", "shut", "open", "due", "-", "1", "ds", "no", "tolds"]:
            self.refused("record a " + word)
            self.refused("record a " + word + " b num -")
            self.refused("choice a " + word + " open")
            self.refused("choice a " + word + " shut b num")
        for word in ["made", "told", "closed", "Open", "opened", "True", "0", "-"]:
            self.refused("choice a made " + word)
            self.refused("choice a told " + word + " b num")
        for word in ["sd", "dd", "ss", "D", "S", "due", "sure", "--", "ds-", "d-", "may", "num", "True", "made"]:
            self.refused("record a made b num " + word)
            self.refused("record a told b num - c num " + word + " d num -")
        for word in ["d", "-", "Due", "must", "dues", "mays", "made", "True", "s", "1"]:
            self.refused("function f 0 num a num " + word + " :")
            self.refused("function f 1 num a num due b num " + word + " c num may : d")

    def test_plain(self):
        for plain in ["00", "01", "001", "+1", "-1", "-0", "+0", "1.0", "1.", "1_0", "one", "#1", "0x1", "a", "",
                      "1e0", "True", "- 1", "0b1"]:
            self.refused("function f " + plain + " num a num due :")
            self.refused("function f " + plain + " num a num due b num may :")
        places = " ".join([name + " num due" for name, kind, due in many_places(12)])
        for plain in ["010", "+10", "1_0", "1_2", "13", "20", "99", "1" + "0" * 59, "9" * 410]:
            self.refused("function f " + plain + " num " + places + " :")
        read_face("function f 12 num " + places + " :")

    def test_what_is_no_name(self):
        for name in NO_NAMES:
            self.refused("record a made " + name + " num ds")
            self.refused("record a told b num s " + name + " num -")
            self.refused("choice a made shut " + name + " num")
            self.refused("choice a told open b num " + name + " word")
            self.refused("function " + name + " 0 num :")
            self.refused("function f 0 num " + name + " num due :")
            self.refused("function f 1 num a num due " + name + " num may :")
            self.refused("function f 0 num : " + name)
            self.refused("function f 0 num : b " + name + " c")

    def test_what_is_no_kind(self):
        for kind in NO_KINDS:
            self.refused("record " + kind + " told")
            self.refused("record " + kind + " made")
            self.refused("choice " + kind + " told open")
            self.refused("choice " + kind + " made shut")
            self.refused("record a made b " + kind + " ds")
            self.refused("record a told b num - c " + kind + " s")
            self.refused("choice a told open b " + kind)
            self.refused("choice a made shut b num c " + kind)
            self.refused("function f 0 " + kind + " :")
            self.refused("function f 0 num a " + kind + " due :")
            self.refused("function f 1 num a num due b " + kind + " may :")

    def test_kinds_that_no_piece_tells(self):
        for kind in ["num", "word"]:
            self.refused("record " + kind + " told")
            self.refused("record " + kind + " made")
            self.refused("choice " + kind + " told open")
            self.refused("choice " + kind + " made shut")

    def test_two_parts_of_one_name(self):
        self.refused("record a made b num ds b num ds")
        self.refused("record a told b num - c num - b word s")
        self.refused("choice a made shut b num b num")
        self.refused("choice a told open b num c num b word")
        self.refused("function f 0 num a num due a num due :")
        self.refused("function f 1 num a num due b num may a word may :")
        self.refused("function f 2 num a num due a num due :")
        self.refused("function f 0 num : a a")
        self.refused("function f 0 num : a b a")

    def test_made_kinds_that_are_no_names(self):
        for kind in ["#1", "#1.ok", "(a&b)", "a.b"]:
            self.refused("record " + kind + " made")
            self.refused("choice " + kind + " made open")
            read_face("record " + kind + " told")
            read_face("choice " + kind + " told open")

    def test_fields_that_are_due_of_what_is_not_made(self):
        for flags in ["d", "ds"]:
            self.refused("record a told b num " + flags)
            self.refused("record a told b num s c num " + flags)

    def test_a_made_record_with_a_field_that_is_sure_but_not_due(self):
        self.refused("record a made b num s")
        self.refused("record a made b num ds c num s d num -")

    def test_plain_greater_than_the_number_of_places(self):
        self.refused("function f 1 num :")
        self.refused("function f 2 num a num due :")
        self.refused("function f 3 num a num due b num may : c")
        self.refused("function f 10 num a num due :")

    def test_told_twice(self):
        self.refused("record a told", "record a told")
        self.refused("record a told", "record a made b num ds")
        self.refused("record a told", "choice a told open")
        self.refused("choice a told open", "record b told", "record a told")
        self.refused("choice a told shut", "choice a told shut")
        self.refused("record #1 told", "choice #1 told open")
        self.refused("function f 0 num :", "function f 0 num :")
        self.refused("function f 0 num :", "function g 0 num :", "function f 1 word a num due : b")

    def test_kinds_and_functions_may_have_the_same_name(self):
        face = read_face("record a told\nfunction a 0 a :\nchoice b told open\nfunction b 0 num :")
        self.assertEqual(len(face.pieces()), 4)

    def test_the_first_of_several(self):
        wrongs = ["", " ", "record", "record num told", "record qa told", "choice a made", "function f 01 num :",
                  "function f 1 num :", "record a told  b num s", "records a told"]
        for one, two in itertools.product(wrongs, wrongs):
            self.assert_at(RIGHT + [one, two], 4)
            self.assert_at(RIGHT[:1] + [one] + RIGHT[1:] + [two], 2)
        self.assert_at(["record a told", "record b told", "record a told", "record b told"], 3)

    def test_nothing_is_left_behind_by_a_refusal(self):
        self.assert_at(["record a told", "record a told"], 2)
        self.assertEqual(read_face("record a told").pieces(), [("record", "a", False, ())])


if __name__ == "__main__":
    unittest.main()
