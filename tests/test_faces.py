import itertools
import unittest

from facestead.errors import FaceError, NoClient, NoFace, NoMake, NoText
from facestead.faces import Face
from facestead.kinds import Bare, Choice, Kind, Record

THIRTEEN = "abcdefghijklm"
NO_NAMES = ["", "A", "a b", "a.b", "#3", "(a&b)", THIRTEEN, "a\n"]
NO_KINDS = ["", "#", "a.", "A", "(a&b", "(a)", "a b", "a\n", "#3.", THIRTEEN]

POINT = ("record", "point", True, (("y", "num", True, True), ("x", "num", True, False), ("tag", "word", False, False)))
SEEN = ("record", "#3.ok", False, (("who", "person", False, True), ("age", "num", False, False)))
SHAPE = ("choice", "shape", True, False, (("square", "num"), ("circle", "point"), ("blot", "(a&b).c")))
ANSWER = ("choice", "#07", False, True, (("yes", "num"), ("no", "word")))
DRAW = ("function", "draw", 2, (("what", "shape", True), ("on", "point", False), ("zoom", "num", False),
                                ("ink", "word", True)), "#07", ("torn", "full", "late"))


def record(kind="a", made=False, fields=()):
    return ("record", kind, made, fields)


def choice(kind="a", made=False, shut=False, forms=()):
    return ("choice", kind, made, shut, forms)


def function(name="a", plain=0, places=(), back="num", faults=()):
    return ("function", name, plain, places, back, faults)


class Kinds(unittest.TestCase):
    def setUp(self):
        self.face = Face([DRAW, POINT, SHAPE, SEEN, ANSWER])

    def test_a_made_record(self):
        kind = self.face.kind("point")
        self.assertEqual(kind.title, "point")
        self.assertEqual(kind.word(), "record")
        self.assertIs(kind.makes(), True)
        self.assertEqual(kind.field("x"), ("num", True, False))
        self.assertEqual(kind.field("y"), ("num", True, True))
        self.assertEqual(kind.field("tag"), ("word", False, False))
        for name in ["a", "u", "xx", "z", ""]:
            self.assertIs(kind.field(name), None)
        self.assertEqual(kind.fields(), ["tag", "x", "y"])
        self.assertEqual(kind.dues(), ["x", "y"])

    def test_a_record_that_is_not_made(self):
        kind = self.face.kind("#3.ok")
        self.assertEqual(kind.title, "#3.ok")
        self.assertEqual(kind.word(), "record")
        self.assertIs(kind.makes(), False)
        self.assertEqual(kind.field("who"), ("person", False, True))
        self.assertEqual(kind.field("age"), ("num", False, False))
        self.assertEqual(kind.fields(), ["age", "who"])
        self.assertEqual(kind.dues(), [])

    def test_what_a_record_has_not(self):
        for title in ["point", "#3.ok"]:
            kind = self.face.kind(title)
            self.assertEqual(kind.forms(), [])
            self.assertIs(kind.shut(), False)
            for name in ["x", "who", "square", "none"]:
                self.assertIs(kind.carried(name), None)

    def test_a_made_choice_that_is_not_shut(self):
        kind = self.face.kind("shape")
        self.assertEqual(kind.title, "shape")
        self.assertEqual(kind.word(), "choice")
        self.assertIs(kind.makes(), True)
        self.assertIs(kind.shut(), False)
        self.assertEqual(kind.forms(), ["blot", "circle", "square"])
        self.assertEqual([kind.carried(form) for form in kind.forms()], ["(a&b).c", "point", "num"])
        for form in ["a", "c", "circles", "yes", ""]:
            self.assertIs(kind.carried(form), None)

    def test_a_shut_choice_that_is_not_made(self):
        kind = self.face.kind("#07")
        self.assertEqual(kind.title, "#07")
        self.assertEqual(kind.word(), "choice")
        self.assertIs(kind.makes(), False)
        self.assertIs(kind.shut(), True)
        self.assertEqual(kind.forms(), ["no", "yes"])
        self.assertEqual(kind.carried("no"), "word")
        self.assertEqual(kind.carried("yes"), "num")
        self.assertIs(kind.carried("square"), None)

    def test_what_a_choice_has_not(self):
        for title in ["shape", "#07"]:
            kind = self.face.kind(title)
            self.assertEqual([kind.fields(), kind.dues()], [[], []])
            for name in ["yes", "square", "x", "none"]:
                self.assertIs(kind.field(name), None)

    def test_bare_kinds(self):
        for title in ["num", "word", "person", "draw", "#3", "#7", "#3.ok.on", "shape.circle", "(point&point)"]:
            kind = self.face.kind(title)
            self.assertEqual(kind.title, title)
            self.assertEqual(kind.word(), "bare")
            self.assertIs(kind.makes(), False)
            self.assertIs(kind.field("x"), None)
            self.assertIs(kind.carried("yes"), None)
            self.assertEqual([kind.fields(), kind.dues(), kind.forms()], [[], [], []])
            self.assertIs(kind.shut(), False)

    def test_just_the_right_class(self):
        classes = {"point": Record, "#3.ok": Record, "shape": Choice, "#07": Choice, "num": Bare, "word": Bare,
                   "person": Bare, "#1": Bare}
        for title in classes:
            kind = self.face.kind(title)
            self.assertIsInstance(kind, Kind)
            for each in [Bare, Record, Choice]:
                self.assertEqual(isinstance(kind, each), each is classes[title], title)

    def test_pieces_without_parts(self):
        face = Face([record("a", True), record("#1"), choice("b", True), choice("#2", False, True)])
        self.assertEqual([face.kind(title).word() for title in ["a", "#1", "b", "#2"]],
                         ["record", "record", "choice", "choice"])
        self.assertEqual([face.kind(title).makes() for title in ["a", "#1", "b", "#2"]], [True, False, True, False])
        self.assertEqual([face.kind(title).shut() for title in ["a", "#1", "b", "#2"]], [False, False, False, True])
        self.assertEqual([face.kind("a").fields(), face.kind("b").forms()], [[], []])

    def test_the_face_without_pieces(self):
        face = Face([])
        self.assertEqual(face.pieces(), [])
        self.assertIs(face.function("draw"), None)
        self.assertEqual(face.kind("point").word(), "bare")

    def test_told_lists_are_the_askers_own(self):
        for title in ["point", "#3.ok", "shape", "#07", "num"]:
            kind = self.face.kind(title)
            for told in [kind.fields, kind.dues, kind.forms]:
                was = list(told())
                told().append("new")
                self.assertEqual(told(), was)
            other = self.face.kind(title)
            self.assertEqual([other.fields(), other.dues(), other.forms()],
                             [kind.fields(), kind.dues(), kind.forms()])

    def test_a_told_kind_that_is_changed_changes_nothing(self):
        for title in ["point", "shape", "num"]:
            self.face.kind(title).title = "other"
            self.assertEqual(self.face.kind(title).title, title)


class Functions(unittest.TestCase):
    def test_told_with_its_parts_sorted(self):
        self.assertEqual(Face([POINT, DRAW]).function("draw"), (
            "function", "draw", 2, (("what", "shape", True), ("on", "point", False), ("ink", "word", True),
                                    ("zoom", "num", False)), "#07", ("full", "late", "torn")))

    def test_plain_parts_places_that_are_sorted_from_those_that_are_not(self):
        places = (("d", "num", True), ("c", "num", False), ("b", "num", True), ("a", "num", False))
        orders = ["abcd", "dabc", "dcab", "dcba", "dcba"]
        for plain in range(5):
            told = Face([function("f", plain, places)]).function("f")
            self.assertEqual(told[2], plain)
            self.assertEqual("".join([place[0] for place in told[3]]), orders[plain])
            self.assertEqual(sorted(told[3]), sorted(places))

    def test_none_for_what_is_no_function(self):
        face = Face([POINT, SHAPE, DRAW, SEEN])
        for name in ["point", "shape", "dra", "draws", "num", "what", "torn", "#3.ok", ""]:
            self.assertIs(face.function(name), None)

    def test_a_kind_and_a_function_of_one_name(self):
        face = Face([function("a", 0, (), "word"), choice("a"), function("b"), record("b")])
        self.assertEqual(face.function("a"), function("a", 0, (), "word"))
        self.assertEqual(face.kind("a").word(), "choice")
        self.assertEqual(face.function("b"), function("b"))
        self.assertEqual(face.kind("b").word(), "record")


class Refusals(unittest.TestCase):
    def refused(self, *pieces):
        # alone, and with right and wrong pieces round about
        right = [record("qa"), choice("qb"), function("qc")]
        wrong = function("", 1)
        many = len(pieces) - 1
        self.assert_at(list(pieces), many)
        self.assert_at(right + list(pieces), many + 3)
        self.assert_at(list(pieces) + right, many)
        self.assert_at(right + list(pieces) + [wrong], many + 3)
        self.assert_at([wrong] + list(pieces), 0)
        self.assert_at([right[0], wrong] + list(pieces) + right, 1)

    def assert_at(self, pieces, at):
        with self.assertRaises(NoFace) as caught:
            Face(pieces)
        self.assertEqual(caught.exception.at, at, pieces)

    def let_by(self, *pieces):
        self.assertEqual(len(Face(list(pieces)).pieces()), len(pieces))

    def test_the_kind_of_a_record_or_choice_is_none(self):
        for kind in NO_KINDS:
            self.refused(record(kind))
            self.refused(record(kind, True))
            self.refused(choice(kind))
            self.refused(choice(kind, True))

    def test_a_record_or_choice_is_num_or_word(self):
        for kind in ["num", "word"]:
            for made in [True, False]:
                self.refused(record(kind, made))
                self.refused(choice(kind, made))

    def test_near_to_num_and_word(self):
        for kind in ["nu", "nums", "words", "wor"]:
            self.let_by(record(kind, True))
            self.let_by(choice(kind, True))
        for kind in ["num.a", "(num&word)", "(num&num)"]:
            self.let_by(record(kind))
            self.let_by(choice(kind))
        self.let_by(function("num"), function("word"))
        self.let_by(record("a", False, (("num", "num", False, False), ("word", "word", False, False))),
                    choice("b", False, False, (("num", "num"), ("word", "word"))),
                    function("c", 1, (("num", "num", True), ("word", "word", True)), "word", ("num", "word")))

    def test_the_name_of_a_function_is_none(self):
        for name in NO_NAMES:
            self.refused(function(name))

    def test_the_name_of_a_field_is_none(self):
        for name in NO_NAMES:
            self.refused(record("a", False, ((name, "num", False, False),)))
            self.refused(record("a", True, (("b", "num", True, True), (name, "num", True, True))))

    def test_the_name_of_a_form_is_none(self):
        for name in NO_NAMES:
            self.refused(choice("a", False, False, ((name, "num"),)))
            self.refused(choice("a", True, True, (("b", "num"), (name, "num"))))

    def test_the_name_of_a_place_is_none(self):
        for name in NO_NAMES:
            self.refused(function("a", 0, ((name, "num", True),)))
            self.refused(function("a", 2, (("b", "num", True), (name, "num", True))))

    def test_the_name_of_a_fault_is_none(self):
        for name in NO_NAMES:
            self.refused(function("a", 0, (), "num", (name,)))
            self.refused(function("a", 0, (), "num", ("b", name, "c")))

    def test_the_kind_of_a_field_is_none(self):
        for kind in NO_KINDS:
            self.refused(record("a", False, (("b", kind, False, False),)))
            self.refused(record("a", True, (("b", "num", True, True), ("c", kind, True, True))))

    def test_the_kind_of_a_form_is_none(self):
        for kind in NO_KINDS:
            self.refused(choice("a", False, False, (("b", kind),)))
            self.refused(choice("a", True, True, (("b", "num"), ("c", kind))))

    def test_the_kind_of_a_place_is_none(self):
        for kind in NO_KINDS:
            self.refused(function("a", 0, (("b", kind, True),)))
            self.refused(function("a", 2, (("b", "num", True), ("c", kind, False))))

    def test_the_kind_back_is_none(self):
        for kind in NO_KINDS:
            self.refused(function("a", 0, (), kind))

    def test_every_kind_may_stand_in_a_part(self):
        for kind in ["num", "word", "b", "#3", "#3.ok", "(a&(b&#07)).c"]:
            self.let_by(record("a", True, (("b", kind, True, True),)), choice("b", True, True, (("a", kind),)),
                        function("a", 1, (("a", kind, True),), kind))

    def test_two_fields_of_one_name(self):
        self.refused(record("a", False, (("b", "num", False, False), ("b", "num", False, False))))
        self.refused(record("a", True, (("b", "num", True, True), ("c", "num", True, True),
                                        ("b", "word", False, False))))

    def test_two_forms_of_one_name(self):
        self.refused(choice("a", True, True, (("b", "num"), ("b", "num"))))
        self.refused(choice("a", False, False, (("b", "num"), ("c", "num"), ("b", "word"))))

    def test_two_places_of_one_name(self):
        self.refused(function("a", 0, (("b", "num", True), ("b", "num", True))))
        self.refused(function("a", 2, (("b", "num", True), ("b", "word", False))))
        self.refused(function("a", 1, (("b", "num", True), ("c", "num", True), ("b", "word", False))))

    def test_two_faults_of_one_name(self):
        self.refused(function("a", 0, (), "num", ("b", "b")))
        self.refused(function("a", 0, (), "num", ("b", "c", "b")))

    def test_a_part_of_one_name_in_two_pieces_or_of_two_sorts(self):
        self.let_by(record("a", True, (("x", "num", True, True),)), record("b", True, (("x", "word", True, True),)),
                    choice("c", True, True, (("x", "num"),)), choice("d", True, True, (("x", "word"),)),
                    function("e", 1, (("x", "num", True),), "num", ("x",)),
                    function("f", 1, (("x", "word", True),), "num", ("x",)))

    def test_a_part_named_like_its_piece(self):
        self.let_by(record("x", True, (("x", "x", True, True),)), function("x", 1, (("x", "x", True),), "x", ("x",)))
        self.let_by(choice("x", True, True, (("x", "x"),)))

    def test_a_made_record_or_choice_whose_kind_is_no_name(self):
        for kind in ["#3", "#3.ok", "a.b", "(a&b)", "(a&b).c"]:
            self.refused(record(kind, True))
            self.refused(choice(kind, True))

    def test_made_up_kinds_of_what_is_not_made(self):
        for kind in ["#3", "#3.ok", "a.b", "(a&b)", "(a&b).c"]:
            self.let_by(record(kind, False, (("a", "num", False, True),)))
            self.let_by(choice(kind, False, True, (("a", "num"),)))

    def test_a_field_is_due_of_a_record_that_is_not_made(self):
        for sure in [True, False]:
            self.refused(record("a", False, (("b", "num", True, sure),)))
            self.refused(record("#1", False, (("b", "num", False, True), ("c", "num", True, sure))))
            self.let_by(record("a", False, (("b", "num", False, sure),)))
            self.let_by(record("a", True, (("b", "num", True, sure),)))

    def test_a_made_record_has_a_field_that_is_sure_but_not_due(self):
        self.refused(record("a", True, (("b", "num", False, True),)))
        self.refused(record("a", True, (("b", "num", True, True), ("c", "num", False, True))))
        self.refused(record("a", True, (("b", "num", False, True), ("c", "num", True, True))))
        self.let_by(record("a", True, (("b", "num", False, False), ("c", "num", True, False),
                                       ("d", "num", True, True))))
        self.let_by(record("a", False, (("b", "num", False, True),)))

    def test_plain_is_less_than_nought(self):
        self.refused(function("a", -1))
        self.refused(function("a", -1, (("b", "num", True), ("c", "num", True))))
        self.refused(function("a", -(10 ** 59)))

    def test_plain_is_greater_than_the_number_of_places(self):
        self.refused(function("a", 1))
        self.refused(function("a", 3, (("b", "num", True), ("c", "num", True))))
        self.refused(function("a", 10 ** 59))

    def test_plain_up_to_the_number_of_places(self):
        for plain in [0, 1, 2]:
            self.let_by(function("a", plain, (("b", "num", True), ("c", "num", False))))
        self.let_by(function("a", 0))

    def test_a_piece_ahead_tells_the_same_kind(self):
        for kind in ["a", "#3"]:
            for first, second in itertools.product([record(kind), choice(kind)], repeat=2):
                self.refused(first, second)
                self.refused(first, function("b"), second)
        self.refused(record("a", True), record("a", False))
        self.refused(choice("a", True, True), record("a", True))

    def test_a_piece_ahead_tells_the_same_function(self):
        self.refused(function("a"), function("a"))
        self.refused(function("a"), record("b"), function("a", 1, (("b", "num", True),), "word"))

    def test_the_first_of_several_is_told(self):
        self.assert_at([function("a"), record("b"), record("b"), function("a"), choice("num")], 2)
        self.assert_at([function("a"), function("a"), function("a")], 1)
        self.assert_at([record("b"), record("c", True, (("x", "num", False, True),)), record("b")], 1)

    def test_kinds_are_told_apart_by_their_texts(self):
        self.let_by(record("#1"), record("#01"), choice("#1.a"), choice("(#1&#1)"), record("a"), record("aa"))

    def test_no_face_stands_under_face_error_and_value_error_alone(self):
        with self.assertRaises(NoFace) as caught:
            Face([record("num")])
        self.assertIsInstance(caught.exception, FaceError)
        self.assertIsInstance(caught.exception, ValueError)
        for other in [NoText, NoClient, NoMake]:
            self.assertNotIsInstance(caught.exception, other)


class Pieces(unittest.TestCase):
    def test_sorting_of_pieces(self):
        pieces = [record("b"), function("b"), record("#2"), choice("z"), record("(a&b)"), function("a"),
                  choice("#10"), choice("#9"), record("aa"), record("a.b"), choice("#1.a"), function("record")]
        self.assertEqual([piece[:2] for piece in Face(pieces).pieces()], [
            ("choice", "#1.a"), ("choice", "#10"), ("choice", "#9"), ("choice", "z"),
            ("function", "a"), ("function", "b"), ("function", "record"),
            ("record", "#2"), ("record", "(a&b)"), ("record", "a.b"), ("record", "aa"), ("record", "b")])

    def test_sorting_of_parts(self):
        self.assertEqual(Face([POINT, SEEN, SHAPE, ANSWER, DRAW]).pieces(), [
            ("choice", "#07", False, True, (("no", "word"), ("yes", "num"))),
            ("choice", "shape", True, False, (("blot", "(a&b).c"), ("circle", "point"), ("square", "num"))),
            ("function", "draw", 2, (("what", "shape", True), ("on", "point", False), ("ink", "word", True),
                                     ("zoom", "num", False)), "#07", ("full", "late", "torn")),
            ("record", "#3.ok", False, (("age", "num", False, False), ("who", "person", False, True))),
            ("record", "point", True, (("tag", "word", False, False), ("x", "num", True, False),
                                       ("y", "num", True, True)))])

    def test_other_orders_of_pieces_are_told_alike(self):
        pieces = [POINT, SEEN, SHAPE, ANSWER, DRAW]
        told = Face(pieces).pieces()
        for order in itertools.permutations(pieces):
            self.assertEqual(Face(list(order)).pieces(), told)

    def test_other_orders_of_parts_are_told_alike(self):
        for parts in itertools.permutations(POINT[3]):
            self.assertEqual(Face([POINT[:3] + (parts,)]).pieces(), Face([POINT]).pieces())
        for parts in itertools.permutations(SHAPE[4]):
            self.assertEqual(Face([SHAPE[:4] + (parts,)]).pieces(), Face([SHAPE]).pieces())
        for faults in itertools.permutations(DRAW[5]):
            self.assertEqual(Face([DRAW[:5] + (faults,)]).pieces(), Face([DRAW]).pieces())
        for behind in itertools.permutations(DRAW[3][2:]):
            draw = DRAW[:3] + (DRAW[3][:2] + behind,) + DRAW[4:]
            self.assertEqual(Face([draw]).pieces(), Face([DRAW]).pieces())

    def test_plain_places_in_another_order_are_told_otherwise(self):
        turned = DRAW[:3] + ((DRAW[3][1], DRAW[3][0]) + DRAW[3][2:],) + DRAW[4:]
        told = Face([turned]).pieces()
        self.assertNotEqual(told, Face([DRAW]).pieces())
        self.assertEqual([place[0] for place in told[0][3]], ["on", "what", "ink", "zoom"])

    def test_a_face_made_of_the_told_list_tells_it_again(self):
        told = Face([POINT, SEEN, SHAPE, ANSWER, DRAW]).pieces()
        self.assertEqual(Face(told).pieces(), told)

    def test_a_told_list_that_is_changed_changes_nothing(self):
        face = Face([POINT, DRAW])
        told = face.pieces()
        was = list(told)
        told.reverse()
        told.append(SHAPE)
        self.assertEqual(face.pieces(), was)
        self.assertEqual(face.kind("shape").word(), "bare")

    def test_the_list_handed_in_changed_behind_the_call_changes_nothing(self):
        pieces = [POINT, DRAW]
        face = Face(pieces)
        was = face.pieces()
        pieces[0] = SHAPE
        pieces.append(ANSWER)
        self.assertEqual(face.pieces(), was)
        self.assertEqual([face.kind(title).word() for title in ["point", "shape", "#07"]], ["record", "bare", "bare"])
        pieces.clear()
        self.assertEqual(face.pieces(), was)

    def test_the_list_handed_in_is_not_changed(self):
        pieces = [SHAPE, POINT, DRAW, ANSWER]
        Face(pieces)
        self.assertEqual(pieces, [SHAPE, POINT, DRAW, ANSWER])
        wrong = [SHAPE, POINT, SHAPE]
        with self.assertRaises(NoFace):
            Face(wrong)
        self.assertEqual(wrong, [SHAPE, POINT, SHAPE])

    def test_a_large_face(self):
        names = [one + other for one in "abcdefghij" for other in "abcdefghijkl"]
        parts = ["p" + letter for letter in "abcdefghijklmnopqrstuvwxy"]
        pieces = [record(name, True, tuple([(part, "num", True, True) for part in parts])) for name in names]
        pieces += [function(name, 9, tuple([(part, name, True) for part in parts]), name, tuple(parts))
                   for name in names]
        face = Face(list(reversed(pieces)))
        self.assertEqual(face.pieces(), sorted(pieces))
        self.assertEqual(face.kind("ja").fields(), parts)
        deep = "(" * 99 + "a" + "&b)" * 99
        self.assertEqual(Face([record(deep)]).kind(deep).word(), "record")


if __name__ == "__main__":
    unittest.main()
