import itertools
import unittest

from facestead.errors import FaceError, NoClient, NoFace, NoMake, NoText
from facestead.faces import Face
from facestead.looks import bound, kinds_of, lets_by

FACE = Face([
    ("record", "point", True, (("x", "num", True, True), ("y", "num", True, False), ("tag", "word", False, False))),
    ("record", "bag", True, ()),
    ("record", "seen", False, (("who", "person", False, True), ("age", "num", False, False))),
    ("choice", "shape", True, False, (("dot", "point"), ("blot", "word"))),
    ("choice", "bit", True, True, (("on", "num"), ("off", "num"), ("odd", "point"))),
    ("choice", "reply", False, True, (("yes", "num"), ("no", "word"))),
    ("choice", "rest", False, False, (("some", "num"),)),
    ("choice", "never", False, True, ()),
    ("function", "draw", 2, (("what", "shape", True), ("at", "point", False), ("ink", "word", True),
                             ("zoom", "num", False)), "reply", ("torn", "full", "late")),
    ("function", "add", 2, (("b", "num", True), ("a", "num", False), ("c", "num", False)), "num", ("big",)),
    ("function", "seek", 0, (), "seen", ()),
    ("function", "meet", 0, (), "person", ("late",)),
    ("function", "rested", 0, (), "rest", ()),
    ("function", "nevered", 0, (), "never", ()),
    ("function", "made", 0, (), "#3.ok", ()),
])

NUM, WORD, POINT, SHAPE, SEEN, REPLY, PERSON, BIT, REST, NEVER, MADEUP, BAG = range(12)
# a thing of each kind
AHEAD = [
    ("num", 7),
    ("word", "seven"),
    ("make", "point", (("x", NUM), ("y", NUM))),
    ("form", "shape", "dot", POINT),
    ("call", "seek", (), (), ()),
    ("call", "draw", (SHAPE,), (("ink", WORD),), ()),
    ("call", "meet", (), (), ()),
    ("form", "bit", "on", NUM),
    ("call", "rested", (), (), ()),
    ("call", "nevered", (), (), ()),
    ("call", "made", (), (), ()),
    ("make", "bag", ()),
]
AHEAD_KINDS = ["num", "word", "point", "shape", "seen", "reply", "person", "bit", "rest", "never", "#3.ok", "bag"]
SELF = len(AHEAD)
NO_ROWS = [SELF, SELF + 1, SELF + 300, -1, -SELF, -300]


class Looks(unittest.TestCase):
    def let_by(self, row, kind, face=FACE):
        client = AHEAD + [row]
        self.assertEqual(kinds_of(face, client), AHEAD_KINDS + [kind], row)
        self.assertIs(lets_by(face, client), True)
        # rows behind a row do not change whether it is let by
        behind = client + [("num", 1), ("plus", len(client), 0)]
        self.assertEqual(kinds_of(face, behind), AHEAD_KINDS + [kind, "num", "num"])

    def assert_at(self, client, at, face=FACE):
        with self.assertRaises(NoClient) as caught:
            kinds_of(face, client)
        self.assertEqual(caught.exception.at, at, client)
        self.assertIsInstance(caught.exception, FaceError)
        self.assertNotIsInstance(caught.exception, (NoFace, NoText, NoMake))
        self.assertIs(lets_by(face, client), False)

    def refused(self, row, face=FACE):
        self.assert_at(AHEAD + [row], SELF, face)
        self.assert_at(AHEAD + [row, ("num", 1), ("plus", 0, 1)], SELF, face)
        self.assert_at(AHEAD + [row, ("plus", WORD, 1)], SELF, face)
        self.assert_at([("num", 7), ("glue", 0, "a")] + AHEAD + [row], 1, face)


class Clients(Looks):
    def test_without_rows(self):
        self.assertEqual(kinds_of(FACE, []), [])
        self.assertIs(lets_by(FACE, []), True)
        self.assertEqual(kinds_of(Face([]), []), [])

    def test_a_thing_of_each_kind(self):
        self.assertEqual(kinds_of(FACE, AHEAD), AHEAD_KINDS)
        for end in range(len(AHEAD)):
            self.assertEqual(kinds_of(FACE, AHEAD[:end]), AHEAD_KINDS[:end])

    def test_the_first_of_several_rows(self):
        bad = ("glue", NUM, "a")
        good = ("num", 1)
        for places in itertools.product([bad, good], repeat=4):
            if bad in places:
                self.assert_at(AHEAD + list(places), SELF + places.index(bad))
        self.assert_at([bad] + AHEAD, 0)

    def test_a_row_that_is_not_let_by_makes_no_thing(self):
        self.assert_at([("num", 1), ("glue", 0, "a"), ("plus", 1, 1)], 1)

    def test_the_face_without_pieces(self):
        face = Face([])
        self.assertEqual(kinds_of(face, [("num", 1), ("plus", 0, 1), ("word", ""), ("glue", 2, "")]),
                         ["num", "num", "word", "word"])
        for row in [("call", "draw", (), (), ()), ("make", "bag", ()), ("form", "shape", "dot", 0),
                    ("get", 0, "x"), ("getor", 0, "x", 0), ("take", 0, "dot", 0), ("sort", 0, (("dot", 0),), 0)]:
            self.assert_at([("num", 1), row], 1, face)

    def test_one_thing_may_be_used_more_than_once(self):
        client = [("num", 1), ("call", "add", (0, 0), (("c", 0),), (("big", 0),)),
                  ("make", "point", (("x", 0), ("y", 0))), ("getor", 2, "x", 0), ("plus", 0, 1)]
        self.assertEqual(kinds_of(FACE, client), ["num", "num", "point", "num", "num"])

    def test_long_clients(self):
        rows = [("num", 0)] + [("plus", at, 1) for at in range(399)]
        self.assertEqual(kinds_of(FACE, rows), ["num"] * 400)
        self.assert_at(rows + [("glue", 399, "a")], 400)

    def test_nothing_handed_in_is_changed(self):
        client = list(AHEAD)
        pieces = FACE.pieces()
        kinds_of(FACE, client)
        lets_by(FACE, client)
        bound(FACE, client[REPLY])
        self.assertEqual(client, AHEAD)
        self.assertEqual(FACE.pieces(), pieces)

    def test_told_lists_are_the_askers_own(self):
        client = list(AHEAD)
        told = kinds_of(FACE, client)
        client.clear()
        self.assertEqual(told, AHEAD_KINDS)
        told.clear()
        self.assertEqual(kinds_of(FACE, AHEAD), AHEAD_KINDS)

    def test_pieces_that_are_changed_behind_change_nothing(self):
        pieces = FACE.pieces()
        face = Face(pieces)
        pieces.clear()
        face.pieces().clear()
        self.assertEqual(kinds_of(face, AHEAD), AHEAD_KINDS)

    def test_kinds_are_those_of_the_face_that_is_asked(self):
        other = Face([("function", "meet", 0, (), "word", ()), ("function", "seek", 0, (), "num", ())])
        client = [("call", "meet", (), (), ()), ("call", "seek", (), (), ())]
        self.assertEqual(kinds_of(FACE, client), ["person", "seen"])
        self.assertEqual(kinds_of(other, client), ["word", "num"])
        self.assertIs(lets_by(FACE, client + [("glue", 0, "a")]), False)
        self.assertIs(lets_by(other, client + [("glue", 0, "a")]), True)


class Things(Looks):
    def test_things_of_no_row_ahead(self):
        # each with things of no row in the place of those that stand there
        rows = [
            lambda x: ("plus", x, 1),
            lambda x: ("glue", x, "a"),
            lambda x: ("call", "draw", (x,), (("ink", WORD),), ()),
            lambda x: ("call", "draw", (SHAPE, x), (("ink", WORD),), ()),
            lambda x: ("call", "draw", (SHAPE,), (("ink", x),), ()),
            lambda x: ("call", "draw", (SHAPE,), (("ink", WORD), ("zoom", x)), ()),
            lambda x: ("call", "draw", (SHAPE,), (("ink", WORD),), (("full", x),)),
            lambda x: ("call", "draw", (SHAPE,), (("ink", WORD),), (("full", REPLY), ("late", x))),
            lambda x: ("make", "point", (("x", x), ("y", NUM))),
            lambda x: ("make", "point", (("tag", WORD), ("x", NUM), ("y", x))),
            lambda x: ("form", "shape", "dot", x),
            lambda x: ("get", x, "x"),
            lambda x: ("getor", x, "x", NUM),
            lambda x: ("getor", POINT, "x", x),
            lambda x: ("take", x, "yes", NUM),
            lambda x: ("take", REPLY, "yes", x),
            lambda x: ("sort", x, (("yes", NUM),), NUM),
            lambda x: ("sort", REPLY, (("yes", x),), NUM),
            lambda x: ("sort", REPLY, (("no", NUM), ("yes", x)), None),
            lambda x: ("sort", REPLY, (("yes", NUM),), x),
        ]
        for row in rows:
            for thing in NO_ROWS:
                self.refused(row(thing))
        self.let_by(rows[0](NUM), "num")

    def test_the_first_row_has_none_ahead(self):
        for thing in [0, 1, -1]:
            self.assert_at([("plus", thing, 1), ("num", 1)], 0)

    def test_numbers_from_behind_are_none(self):
        self.assert_at([("num", 1), ("num", 2), ("plus", -1, 1)], 2)
        self.assert_at([("num", 1), ("num", 2), ("plus", -3, 1)], 2)

    def test_large_numbers(self):
        self.refused(("plus", 10 ** 59, 1))
        self.refused(("plus", -10 ** 59, 1))


class Rising(Looks):
    def test_by_name(self):
        self.let_by(("call", "add", (), (("a", NUM), ("b", NUM), ("c", NUM)), ()), "num")
        for names in itertools.product("abc", repeat=3):
            if names != ("a", "b", "c"):
                self.refused(("call", "add", (), tuple([(name, NUM) for name in names]), ()))
        self.refused(("call", "add", (), (("b", NUM), ("b", NUM)), ()))
        self.refused(("call", "add", (NUM,), (("c", NUM), ("a", NUM)), ()))

    def test_caught(self):
        row = ("call", "draw", (SHAPE,), (("ink", WORD),))
        self.let_by(row + ((("full", REPLY), ("late", REPLY), ("torn", REPLY)),), "reply")
        for names in itertools.product(["full", "late", "torn"], repeat=3):
            if names != ("full", "late", "torn"):
                self.refused(row + (tuple([(name, REPLY) for name in names]),))
        self.refused(row + ((("late", REPLY), ("late", REPLY)),))

    def test_given(self):
        self.let_by(("make", "point", (("tag", WORD), ("x", NUM), ("y", NUM))), "point")
        self.refused(("make", "point", (("y", NUM), ("x", NUM))))
        self.refused(("make", "point", (("x", NUM), ("y", NUM), ("tag", WORD))))
        self.refused(("make", "point", (("x", NUM), ("x", NUM), ("y", NUM))))
        self.refused(("make", "point", (("x", NUM), ("y", NUM), ("y", NUM))))

    def test_arms(self):
        self.let_by(("sort", BIT, (("odd", NUM), ("off", NUM), ("on", NUM)), None), "num")
        for names in itertools.product(["odd", "off", "on"], repeat=3):
            if names != ("odd", "off", "on"):
                for z in [None, NUM]:
                    self.refused(("sort", BIT, tuple([(name, NUM) for name in names]), z))
        self.refused(("sort", BIT, (("on", NUM), ("on", NUM)), NUM))


class Plain(Looks):
    def test_num_and_word(self):
        for number in [0, -1, 10 ** 59, -10 ** 59]:
            self.let_by(("num", number), "num")
        for text in ["", "num", "a b\nc", "~" * 400]:
            self.let_by(("word", text), "word")

    def test_plus(self):
        for number in [0, 5, -5]:
            self.let_by(("plus", NUM, number), "num")
        for thing in range(1, SELF):
            self.refused(("plus", thing, 1))

    def test_glue(self):
        for text in ["", "a"]:
            self.let_by(("glue", WORD, text), "word")
        for thing in [NUM] + list(range(2, SELF)):
            self.refused(("glue", thing, "a"))


class Calls(Looks):
    def test_without_places(self):
        self.let_by(("call", "seek", (), (), ()), "seen")
        self.let_by(("call", "made", (), (), ()), "#3.ok")
        self.refused(("call", "seek", (NUM,), (), ()))
        self.refused(("call", "seek", (), (("a", NUM),), ()))
        self.refused(("call", "seek", (), (), (("late", SEEN),)))

    def test_an_unknown_function(self):
        for name in ["draws", "dra", "point", "num", "what", "", "a"]:
            self.refused(("call", name, (), (), ()))

    def test_by_place_and_by_name(self):
        self.let_by(("call", "draw", (), (("ink", WORD), ("what", SHAPE)), ()), "reply")
        self.let_by(("call", "draw", (SHAPE,), (("ink", WORD),), ()), "reply")
        self.let_by(("call", "draw", (SHAPE, POINT), (("ink", WORD),), ()), "reply")
        self.let_by(("call", "draw", (SHAPE,), (("at", POINT), ("ink", WORD)), ()), "reply")
        self.let_by(("call", "draw", (SHAPE, POINT), (("ink", WORD), ("zoom", NUM)), ()), "reply")
        self.let_by(("call", "draw", (), (("at", POINT), ("ink", WORD), ("what", SHAPE), ("zoom", NUM)), ()), "reply")

    def test_too_many_by_place(self):
        self.refused(("call", "draw", (SHAPE, POINT, WORD), (), ()))
        self.refused(("call", "draw", (SHAPE, POINT, WORD), (("ink", WORD),), ()))
        self.refused(("call", "draw", (SHAPE, POINT, WORD, NUM), (), ()))
        self.refused(("call", "draw", (SHAPE, POINT, WORD, NUM, NUM), (), ()))
        self.refused(("call", "add", (NUM, NUM, NUM), (), ()))
        face = Face(FACE.pieces() + [("function", "all", 2, (("b", "num", True), ("a", "num", True)), "num", ())])
        self.let_by(("call", "all", (NUM, NUM), (), ()), "num", face)
        self.refused(("call", "all", (NUM, NUM, NUM), (), ()), face)

    def test_a_name_that_is_bound_by_place_already(self):
        self.refused(("call", "draw", (SHAPE,), (("ink", WORD), ("what", SHAPE)), ()))
        self.refused(("call", "draw", (SHAPE, POINT), (("at", POINT), ("ink", WORD)), ()))
        self.refused(("call", "add", (NUM,), (("b", NUM),), ()))
        self.refused(("call", "add", (NUM, NUM), (("a", NUM),), ()))
        self.let_by(("call", "add", (NUM,), (("a", NUM),), ()), "num")

    def test_an_unknown_name(self):
        for name in ["a", "inks", "full", "point", "zzz"]:
            names = sorted(["ink", name])
            self.refused(("call", "draw", (SHAPE,), tuple([(each, WORD) for each in names]), ()))
        self.refused(("call", "add", (NUM,), (("d", NUM),), ()))
        self.refused(("call", "add", (NUM,), (("", NUM),), ()))

    def test_a_due_place_that_is_not_bound(self):
        self.refused(("call", "draw", (SHAPE,), (), ()))
        self.refused(("call", "draw", (SHAPE, POINT), (("zoom", NUM),), ()))
        self.refused(("call", "draw", (), (("ink", WORD),), ()))
        self.refused(("call", "draw", (), (("at", POINT), ("ink", WORD), ("zoom", NUM)), ()))
        self.refused(("call", "add", (), (), ()))
        self.refused(("call", "add", (), (("a", NUM), ("c", NUM)), ()))
        self.let_by(("call", "add", (), (("b", NUM),), ()), "num")
        self.let_by(("call", "add", (NUM,), (), ()), "num")

    def test_a_thing_of_another_kind_than_its_place(self):
        for thing in range(SELF):
            if thing != SHAPE:
                self.refused(("call", "draw", (thing,), (("ink", WORD),), ()))
                self.refused(("call", "draw", (), (("ink", WORD), ("what", thing)), ()))
            if thing != POINT:
                self.refused(("call", "draw", (SHAPE, thing), (("ink", WORD),), ()))
                self.refused(("call", "draw", (SHAPE,), (("at", thing), ("ink", WORD)), ()))
            if thing != WORD:
                self.refused(("call", "draw", (SHAPE,), (("ink", thing),), ()))
            if thing != NUM:
                self.refused(("call", "draw", (SHAPE,), (("ink", WORD), ("zoom", thing)), ()))

    def test_caught_faults(self):
        row = ("call", "draw", (SHAPE,), (("ink", WORD),))
        for names in [(), ("full",), ("torn",), ("full", "torn"), ("full", "late", "torn")]:
            self.let_by(row + (tuple([(name, REPLY) for name in names]),), "reply")
        self.let_by(("call", "meet", (), (), (("late", PERSON),)), "person")

    def test_a_fault_that_is_not_the_functions(self):
        row = ("call", "draw", (SHAPE,), (("ink", WORD),))
        for name in ["big", "ful", "fulls", "ink", "yes", ""]:
            self.refused(row + (((name, REPLY),),))
        self.refused(row + ((("big", REPLY), ("full", REPLY)),))
        self.refused(row + ((("torn", REPLY), ("worn", REPLY)),))

    def test_a_caught_thing_of_another_kind(self):
        row = ("call", "draw", (SHAPE,), (("ink", WORD),))
        for thing in range(SELF):
            if thing != REPLY:
                self.refused(row + ((("full", thing),),))
                self.refused(row + ((("full", REPLY), ("late", thing), ("torn", REPLY)),))


class Makes(Looks):
    def test_records(self):
        self.let_by(("make", "point", (("x", NUM), ("y", NUM))), "point")
        self.let_by(("make", "point", (("tag", WORD), ("x", NUM), ("y", NUM))), "point")
        self.let_by(("make", "bag", ()), "bag")

    def test_a_kind_that_is_no_record(self):
        for kind in ["num", "word", "person", "shape", "bit", "reply", "#3.ok", "draw", "never", "", "Point"]:
            self.refused(("make", kind, ()))

    def test_a_choice_that_is_made_is_no_record(self):
        face = Face(FACE.pieces() + [("choice", "void", True, True, ()), ("choice", "free", True, False, ())])
        for kind in ["void", "free"]:
            self.refused(("make", kind, ()), face)

    def test_a_record_that_is_not_made(self):
        self.refused(("make", "seen", ()))
        self.refused(("make", "seen", (("who", PERSON),)))
        face = Face(FACE.pieces() + [("record", "hid", False, ()), ("record", "#1", False, ())])
        for kind in ["hid", "#1"]:
            self.refused(("make", kind, ()), face)

    def test_a_field_that_is_not_told(self):
        self.refused(("make", "bag", (("x", NUM),)))
        self.refused(("make", "point", (("x", NUM), ("y", NUM), ("z", NUM))))
        self.refused(("make", "point", (("a", WORD), ("x", NUM), ("y", NUM))))

    def test_a_field_of_another_kind(self):
        for thing in range(SELF):
            if thing != NUM:
                self.refused(("make", "point", (("x", thing), ("y", NUM))))
                self.refused(("make", "point", (("x", NUM), ("y", thing))))
            if thing != WORD:
                self.refused(("make", "point", (("tag", thing), ("x", NUM), ("y", NUM))))

    def test_a_due_field_that_is_left_out(self):
        for given in [(), (("x", NUM),), (("y", NUM),), (("tag", WORD),), (("tag", WORD), ("x", NUM)),
                      (("tag", WORD), ("y", NUM))]:
            self.refused(("make", "point", given))


class Forms(Looks):
    def test_choices(self):
        self.let_by(("form", "shape", "dot", POINT), "shape")
        self.let_by(("form", "shape", "blot", WORD), "shape")
        self.let_by(("form", "bit", "off", NUM), "bit")
        self.let_by(("form", "bit", "odd", POINT), "bit")

    def test_a_choice_that_is_not_made(self):
        self.refused(("form", "reply", "yes", NUM))
        self.refused(("form", "rest", "some", NUM))

    def test_a_kind_that_is_no_choice(self):
        for kind in ["point", "bag", "seen", "num", "word", "person", "#3.ok", "draw", ""]:
            for form in ["x", "tag", "dot", "yes"]:
                self.refused(("form", kind, form, NUM))

    def test_a_form_that_is_none_of_it(self):
        for form in ["on", "dots", "do", "yes", ""]:
            self.refused(("form", "shape", form, POINT))
        self.refused(("form", "bit", "dot", NUM))

    def test_carried_of_another_kind(self):
        for thing in range(SELF):
            if thing != POINT:
                self.refused(("form", "shape", "dot", thing))
            if thing != WORD:
                self.refused(("form", "shape", "blot", thing))


class Gets(Looks):
    def test_a_field_that_is_sure(self):
        self.let_by(("get", POINT, "x"), "num")
        self.let_by(("get", SEEN, "who"), "person")

    def test_a_field_that_is_not_sure(self):
        self.refused(("get", POINT, "y"))
        self.refused(("get", POINT, "tag"))
        self.refused(("get", SEEN, "age"))

    def test_a_field_that_is_not_told(self):
        for field in ["z", "who", "xs", ""]:
            self.refused(("get", POINT, field))
            self.refused(("getor", POINT, field, NUM))
        self.refused(("get", BAG, "x"))
        self.refused(("getor", BAG, "x", NUM))

    def test_of_what_is_no_record(self):
        for thing in [NUM, WORD, SHAPE, REPLY, PERSON, BIT, REST, NEVER, MADEUP]:
            for field in ["x", "who", "dot", "yes", "on"]:
                self.refused(("get", thing, field))
                for z in [NUM, WORD, POINT, thing]:
                    self.refused(("getor", thing, field, z))

    def test_getor(self):
        self.let_by(("getor", POINT, "x", NUM), "num")
        self.let_by(("getor", POINT, "y", NUM), "num")
        self.let_by(("getor", POINT, "tag", WORD), "word")
        self.let_by(("getor", SEEN, "age", NUM), "num")
        self.let_by(("getor", SEEN, "who", PERSON), "person")

    def test_getor_with_a_z_of_another_kind(self):
        for thing in range(SELF):
            if thing != NUM:
                self.refused(("getor", POINT, "x", thing))
                self.refused(("getor", POINT, "y", thing))
            if thing != PERSON:
                self.refused(("getor", SEEN, "who", thing))


class Takes(Looks):
    def test_take(self):
        self.let_by(("take", SHAPE, "dot", POINT), "point")
        self.let_by(("take", SHAPE, "blot", WORD), "word")
        self.let_by(("take", REPLY, "yes", NUM), "num")
        self.let_by(("take", REST, "some", NUM), "num")
        self.let_by(("take", BIT, "odd", POINT), "point")

    def test_a_form_that_is_none_of_it(self):
        for form in ["on", "yes", "dots", ""]:
            for thing in [POINT, WORD, NUM]:
                self.refused(("take", SHAPE, form, thing))
        self.refused(("take", NEVER, "yes", NUM))

    def test_of_what_is_no_choice(self):
        for thing in [NUM, WORD, POINT, SEEN, PERSON, MADEUP, BAG]:
            for form in ["dot", "yes", "x", "who"]:
                for z in [NUM, POINT, PERSON, thing]:
                    self.refused(("take", thing, form, z))

    def test_a_z_of_another_kind(self):
        for thing in range(SELF):
            if thing != POINT:
                self.refused(("take", SHAPE, "dot", thing))
            if thing != NUM:
                self.refused(("take", REPLY, "yes", thing))


class Sorts(Looks):
    def test_with_z(self):
        self.let_by(("sort", SHAPE, (("blot", NUM), ("dot", NUM)), NUM), "num")
        self.let_by(("sort", SHAPE, (("dot", WORD),), WORD), "word")
        self.let_by(("sort", REPLY, (("yes", PERSON),), PERSON), "person")
        self.let_by(("sort", REPLY, (("no", POINT), ("yes", POINT)), POINT), "point")
        self.let_by(("sort", REST, (("some", REST),), REST), "rest")

    def test_without_z(self):
        self.let_by(("sort", REPLY, (("no", NUM), ("yes", NUM)), None), "num")
        self.let_by(("sort", BIT, (("odd", REPLY), ("off", REPLY), ("on", REPLY)), None), "reply")

    def test_of_what_is_no_choice(self):
        for thing in [NUM, WORD, POINT, SEEN, PERSON, MADEUP, BAG]:
            for z in [None, NUM]:
                self.refused(("sort", thing, (("x", NUM),), z))
                self.refused(("sort", thing, (("yes", NUM),), z))
                self.refused(("sort", thing, (), z))

    def test_without_an_arm(self):
        for thing in [SHAPE, REPLY, BIT, REST, NEVER]:
            for z in [None, NUM]:
                self.refused(("sort", thing, (), z))

    def test_arms_that_are_no_forms_of_it(self):
        for z in [None, NUM]:
            self.refused(("sort", REPLY, (("maybe", NUM), ("no", NUM), ("yes", NUM)), z))
            self.refused(("sort", REPLY, (("no", NUM), ("yes", NUM), ("yet", NUM)), z))
            self.refused(("sort", REPLY, (("no", NUM), ("yet", NUM)), z))
            self.refused(("sort", SHAPE, (("on", NUM),), z))
            self.refused(("sort", NEVER, (("on", NUM),), z))

    def test_open_choices_without_z(self):
        self.refused(("sort", SHAPE, (("blot", NUM), ("dot", NUM)), None))
        self.refused(("sort", REST, (("some", NUM),), None))

    def test_an_arm_left_out_without_z(self):
        self.refused(("sort", REPLY, (("no", NUM),), None))
        self.refused(("sort", REPLY, (("yes", NUM),), None))
        for arms in itertools.combinations(["odd", "off", "on"], 2):
            self.refused(("sort", BIT, tuple([(arm, NUM) for arm in arms]), None))
            self.let_by(("sort", BIT, tuple([(arm, NUM) for arm in arms]), NUM), "num")

    def test_ends_of_several_kinds(self):
        self.refused(("sort", REPLY, (("no", NUM), ("yes", WORD)), None))
        self.refused(("sort", REPLY, (("no", NUM), ("yes", NUM)), WORD))
        self.refused(("sort", REPLY, (("no", WORD), ("yes", NUM)), NUM))
        self.refused(("sort", REPLY, (("yes", POINT),), NUM))
        self.refused(("sort", BIT, (("odd", NUM), ("off", WORD), ("on", NUM)), None))
        self.refused(("sort", BIT, (("odd", NUM), ("off", NUM), ("on", WORD)), None))

    def test_arms_need_not_be_of_the_kind_that_is_carried(self):
        self.let_by(("sort", REPLY, (("no", SEEN), ("yes", SEEN)), None), "seen")


class Bound(unittest.TestCase):
    def test_nothing(self):
        self.assertEqual(bound(FACE, ("call", "seek", (), (), ())), ())

    def test_by_place_alone(self):
        self.assertEqual(bound(FACE, ("call", "add", (4, 2), (), ())), (("b", 4), ("a", 2)))
        self.assertEqual(bound(FACE, ("call", "add", (4,), (), ())), (("b", 4),))

    def test_by_name_alone(self):
        self.assertEqual(bound(FACE, ("call", "add", (), (("a", 1), ("b", 9), ("c", 0)), ())),
                         (("a", 1), ("b", 9), ("c", 0)))
        self.assertEqual(bound(FACE, ("call", "add", (), (("b", 3),), ())), (("b", 3),))

    def test_both(self):
        self.assertEqual(bound(FACE, ("call", "draw", (7, 3), (("ink", 1), ("zoom", 0)), (("late", 2),))),
                         (("what", 7), ("at", 3), ("ink", 1), ("zoom", 0)))
        self.assertEqual(bound(FACE, ("call", "add", (5,), (("a", 1), ("c", 2)), ())), (("b", 5), ("a", 1), ("c", 2)))

    def test_one_thing_handed_in_twice(self):
        self.assertEqual(bound(FACE, ("call", "add", (6, 6), (("c", 6),), ())), (("b", 6), ("a", 6), ("c", 6)))

    def test_places_in_another_order(self):
        other = Face([("function", "add", 2, (("a", "num", True), ("b", "num", True), ("c", "num", False)), "num", ())])
        by_place = ("call", "add", (6, 6), (), ())
        by_name = ("call", "add", (), (("a", 6), ("b", 7)), ())
        self.assertEqual(bound(FACE, by_place), (("b", 6), ("a", 6)))
        self.assertEqual(bound(other, by_place), (("a", 6), ("b", 6)))
        self.assertEqual(bound(FACE, by_name), (("a", 6), ("b", 7)))
        self.assertEqual(bound(other, by_name), bound(FACE, by_name))

    def test_told_as_tuples(self):
        told = bound(FACE, ("call", "add", (4,), (("a", 2),), ()))
        self.assertIs(type(told), tuple)
        self.assertEqual([type(pair) for pair in told], [tuple, tuple])


if __name__ == "__main__":
    unittest.main()
