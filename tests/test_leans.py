import random
import unittest

from facestead.errors import FaceError, NoClient
from facestead.faces import Face
from facestead.judges import may_stand_in
from facestead.leans import leans
from facestead.texts import written
from small import alike, changed_face, face, some_client, some_face

# sources of bare things, records and choices, and what takes or makes things of each kind
FACE = face(
    "function bare 0 bare : u v",
    "function other 0 bare :",
    "function eat 0 num a bare may b bare may :",
    "function gulp 0 num a bare may :",
    "function number 0 num : u",
    "function text 0 word :",
    "function seen 0 seen :",
    "function shown 0 seen :",
    "function reply 0 reply :",
    "function answer 0 reply :",
    "function rest 0 rest :",
    "function point 0 point :",
    "function shape 0 shape :",
    "function order 3 num z num may y num may x num may b num may a num may : u v w",
    "record seen told who bare s old bare - next seen s size num s",
    "record point made x num ds y num d tag word - far bare -",
    "record bag made",
    "choice reply told shut yes bare no bare",
    "choice rest told open some bare more rest",
    "choice shape made shut dot point blot bare list shape",
)


def call(name, by_place=(), caught=(), **by_name):
    return ("call", name, by_place, tuple(sorted(by_name.items())), tuple(caught))


class Leaning(unittest.TestCase):
    def told(self, client, start=FACE):
        kept = list(client)
        told = leans(start, client)
        self.assertIsInstance(told, Face)
        self.assertEqual(client, kept)
        self.assertTrue(alike(start, told, client), written(told))
        self.assertTrue(may_stand_in(told, start), written(told))
        return told

    def leans_on(self, client, *rows):
        self.assertEqual(written(self.told(client)), written(face(*rows)))

    def has(self, client, *rows):
        """rows: some of those that the face is written in"""
        for row in rows:
            self.assertIn(written(face(row)), written(self.told(client)).split("\n"))

    def back(self, client, name):
        return self.told(client).function(name)[4]


class Classes(Leaning):
    """The rules of point 24, seen by what answers of functions are called in the face."""

    def test_every_row_is_a_class_where_no_rule_says_otherwise(self):
        self.leans_on([call("bare"), call("other"), call("seen")],
                      "function bare 0 #0 :", "function other 0 #1 :", "function seen 0 #2 :")

    def test_num_and_plus(self):
        # what a call makes is no number of the face, unless plus adds to it
        self.assertEqual(self.back([("num", 1), call("number")], "number"), "#1")
        self.assertEqual(self.back([call("number"), ("plus", 0, 1)], "number"), "num")
        # two numbers that are told, one used by a call
        told = self.told([("num", 1), ("num", 2), call("order", z=0, y=1)])
        self.assertEqual(told.function("order")[3], (("y", "num", True), ("z", "num", True)))
        told = self.told([("num", 1), ("plus", 0, 2), call("order", z=1)])
        self.assertEqual(told.function("order")[3], (("z", "num", True),))
        told = self.told([call("number"), ("plus", 0, 2), call("order", z=1)])
        self.assertEqual(told.function("order")[3], (("z", "num", True),))
        self.assertEqual(told.function("number")[4], "num")

    def test_word_and_glue(self):
        self.assertEqual(self.back([("word", "a"), call("text")], "text"), "#1")
        self.assertEqual(self.back([call("text"), ("glue", 0, "a")], "text"), "word")
        given = [("num", 1), call("text"), ("glue", 1, "a"), ("make", "point", (("tag", 2), ("x", 0), ("y", 0)))]
        self.assertEqual(self.told(given).kind("point").field("tag")[0], "word")
        given[1] = ("word", "b")
        self.assertEqual(self.told(given).kind("point").field("tag")[0], "word")

    def test_all_that_make_makes_of_one_kind(self):
        # two of one kind: what is given by one field to either is in one class
        client = [call("bare"), call("other"), ("num", 1),
                  ("make", "point", (("far", 0), ("x", 2), ("y", 2))),
                  ("make", "point", (("far", 1), ("x", 2), ("y", 2)))]
        told = self.told(client)
        self.assertEqual([told.function("bare")[4], told.function("other")[4]], ["#0", "#0"])
        self.assertEqual(told.kind("point").field("far"), ("#0", True, False))

    def test_all_that_form_makes_of_one_kind(self):
        client = [call("bare"), call("other"), ("form", "shape", "blot", 0), ("form", "shape", "blot", 1)]
        told = self.told(client)
        self.assertEqual([told.function("bare")[4], told.function("other")[4]], ["#0", "#0"])
        self.assertEqual(written(told).split("\n")[0], "choice shape made open blot #0")

    def test_what_is_made_and_what_is_answered_are_two_classes(self):
        client = [call("point"), ("num", 1), ("make", "point", (("x", 1), ("y", 1))), call("shape"),
                  ("form", "shape", "dot", 2)]
        told = self.told(client)
        self.assertEqual(told.function("point")[4], "#0")
        self.assertEqual(told.function("shape")[4], "#3")
        self.assertEqual(told.kind("shape").carried("dot"), "point")

    def test_answers_of_one_function(self):
        # both answers are handed in, by two places
        client = [call("bare"), call("bare"), call("eat", a=0, b=1)]
        self.has(client, "function bare 0 #0 :", "function eat 0 #2 a #0 due b #0 due :")

    def test_answers_of_two_functions(self):
        client = [call("bare"), call("other"), call("eat", a=0, b=1)]
        self.has(client, "function bare 0 #0 :", "function other 0 #1 :", "function eat 0 #2 a #0 due b #1 due :")

    def test_things_told_with_caught_faults(self):
        client = [call("other"), call("bare", caught=[("u", 0)])]
        self.leans_on(client, "function bare 0 #0 : u", "function other 0 #0 :")
        client = [("num", 1), call("number", caught=[("u", 0)])]
        self.leans_on(client, "function number 0 num : u")

    def test_things_bound_to_one_place_of_one_function(self):
        client = [call("bare"), call("other"), call("eat", a=0), call("eat", a=1)]
        self.has(client, "function bare 0 #0 :", "function other 0 #0 :", "function eat 0 #2 a #0 due :")

    def test_things_bound_to_two_places_or_to_places_of_two_functions(self):
        client = [call("bare"), call("other"), call("eat", a=0), call("eat", b=1)]
        self.has(client, "function bare 0 #0 :", "function other 0 #1 :", "function eat 0 #2 a #0 may b #1 may :")
        client = [call("bare"), call("other"), call("eat", a=0), call("gulp", a=1)]
        self.has(client, "function bare 0 #0 :", "function other 0 #1 :", "function eat 0 #2 a #0 due :",
                 "function gulp 0 #3 a #1 due :")

    def test_things_bound_by_place_and_by_name(self):
        client = [call("number"), call("order"), call("order", (0,)), call("order", z=1)]
        self.has(client, "function number 0 #0 :", "function order 1 #0 z #0 may :")
        # by the names of places, not by where they stand
        client = [("num", 0), call("number"), call("order", (0, 1)), call("order", y=0)]
        self.has(client, "function number 0 num :", "function order 2 #2 z num may y num due :")

    def test_fields_given_and_got(self):
        client = [call("bare"), ("num", 1), ("make", "point", (("far", 0), ("x", 1), ("y", 1))), call("other"),
                  ("getor", 2, "far", 3)]
        self.has(client, "function bare 0 #0 :", "function other 0 #0 :", "record point made far #0 d x num d y num d")

    def test_get_and_getor_of_one_field(self):
        # what get takes is eaten by the one place, what getor takes by the other, z is another call's answer
        client = [call("seen"), ("get", 0, "who"), call("bare"), ("getor", 0, "who", 2), call("eat", a=1, b=3)]
        self.has(client, "function bare 0 #1 :", "record #0 told who #1 s", "function eat 0 #4 a #1 due b #1 due :")

    def test_get_twice(self):
        client = [call("seen"), ("get", 0, "who"), ("get", 0, "who"), call("eat", a=1, b=2)]
        self.has(client, "function eat 0 #3 a #1 due b #1 due :")

    def test_z_of_getor_and_what_it_takes(self):
        client = [call("seen"), call("bare"), ("getor", 0, "old", 1), call("eat", a=2)]
        self.has(client, "record #0 told old #1 -", "function bare 0 #1 :", "function eat 0 #3 a #1 due :")

    def test_two_fields_of_one_class(self):
        client = [call("seen"), ("get", 0, "who"), call("bare"), ("getor", 0, "old", 2)]
        self.has(client, "record #0 told old #2 - who #1 s", "function bare 0 #2 :")

    def test_one_field_of_two_classes(self):
        client = [call("seen"), call("shown"), ("get", 0, "who"), ("get", 1, "who")]
        self.leans_on(client, "function seen 0 #0 :", "function shown 0 #1 :", "record #0 told who #2 s",
                      "record #1 told who #3 s")

    def test_forms_made_and_taken(self):
        client = [call("bare"), ("form", "shape", "blot", 0), call("other"), ("take", 1, "blot", 2),
                  call("eat", a=3)]
        self.has(client, "function bare 0 #0 :", "function other 0 #0 :", "choice shape made open blot #0",
                 "function eat 0 #4 a #0 due :")

    def test_take_twice(self):
        client = [call("reply"), call("bare"), call("other"), ("take", 0, "yes", 1), ("take", 0, "yes", 2)]
        self.has(client, "function bare 0 #1 :", "function other 0 #1 :", "choice #0 told open yes #1")

    def test_two_forms_of_one_class(self):
        client = [call("reply"), call("bare"), call("other"), ("take", 0, "yes", 1), ("take", 0, "no", 2)]
        self.has(client, "function bare 0 #1 :", "function other 0 #2 :", "choice #0 told open no #2 yes #1")

    def test_one_form_of_two_classes(self):
        client = [call("reply"), call("answer"), call("bare"), call("other"), ("take", 0, "yes", 2),
                  ("take", 1, "yes", 3)]
        self.has(client, "function bare 0 #2 :", "function other 0 #3 :", "choice #0 told open yes #2",
                 "choice #1 told open yes #3")

    def test_sort_and_its_things(self):
        client = [call("reply"), call("bare"), call("other"), call("seen"), ("get", 3, "who"),
                  ("sort", 0, (("no", 1), ("yes", 2)), 4), call("eat", a=5)]
        self.has(client, "function bare 0 #1 :", "function other 0 #1 :", "record #3 told who #1 s",
                 "function eat 0 #6 a #1 due :")
        # what it sorts by is in no class with them
        self.has(client, "function reply 0 #0 :")

    def test_sort_without_z(self):
        client = [call("reply"), call("bare"), call("other"), ("sort", 0, (("no", 1), ("yes", 2)), None)]
        self.has(client, "function bare 0 #1 :", "function other 0 #1 :")

    def test_two_sorts(self):
        client = [call("reply"), call("bare"), call("other"), ("sort", 0, (("no", 1),), 1),
                  ("sort", 0, (("no", 2),), 2)]
        self.has(client, "function bare 0 #1 :", "function other 0 #2 :")

    def test_what_is_sorted_by_itself(self):
        client = [call("rest"), call("rest"), ("sort", 0, (("more", 1),), 0)]
        self.leans_on(client, "function rest 0 #0 :", "choice #0 told open more #0.more")


class Steps(Leaning):
    """Classes that come together because others have."""

    def test_fields_of_classes_that_come_together(self):
        client = [call("seen"), call("shown"), ("get", 0, "who"), ("get", 1, "who"), call("reply"),
                  ("sort", 4, (("yes", 0),), 1)]
        self.leans_on(client, "function seen 0 #0 :", "function shown 0 #0 :", "function reply 0 #4 :",
                      "record #0 told who #2 s", "choice #4 told open yes #4.yes")

    def test_fields_of_fields(self):
        client = [call("seen"), call("shown"), ("get", 0, "next"), ("get", 1, "next"), ("get", 2, "who"),
                  ("get", 3, "who"), call("reply"), ("sort", 6, (("yes", 0),), 1)]
        self.has(client, "record #0 told next #2 s", "record #2 told who #4 s", "function shown 0 #0 :")
        # where the first ones are apart, all are
        self.assertEqual(len(self.told(client[:-1]).pieces()), 7)

    def test_many_steps(self):
        # two chains, by turns
        client = [call("reply"), call("seen"), call("shown")]
        for turn in range(80):
            client.append(("get", len(client) - 2, "next"))
        apart = self.told(client)
        self.assertEqual(len(apart.pieces()), 3 + 80)
        together = self.told(client + [("sort", 0, (("yes", 2),), 1)])
        # three functions, forty records and a choice
        self.assertEqual(len(together.pieces()), 3 + 40 + 1)

    def test_by_forms(self):
        client = [call("rest"), call("rest"), ("take", 0, "more", 1)]
        self.leans_on(client, "function rest 0 #0 :", "choice #0 told open more #0")
        client = [call("reply"), call("answer"), call("bare"), call("other"), ("take", 0, "yes", 2),
                  ("take", 1, "yes", 3), ("sort", 0, (("no", 0),), 1)]
        self.leans_on(client, "function reply 0 #0 :", "function answer 0 #0 :", "function bare 0 #2 :",
                      "function other 0 #2 :", "choice #0 told open no #0.no yes #2")

    def test_a_later_row_gives_a_class_its_name(self):
        # the answer is told with the fault that is caught, so the answers are numbers
        client = [call("number"), call("order", (0,)), ("num", 1), call("number", caught=[("u", 2)])]
        self.leans_on(client, "function number 0 num : u", "function order 1 #1 z num due :")

    def test_by_way_of_places(self):
        client = [call("seen"), ("get", 0, "who"), call("eat", a=1), call("other"), call("eat", a=3), call("bare"),
                  call("gulp", a=5), call("gulp", a=3)]
        self.has(client, "record #0 told who #1 s", "function other 0 #1 :", "function bare 0 #1 :")


class Names(Leaning):
    def test_by_the_first_row(self):
        client = [("num", 1), call("bare"), call("other"), call("eat", a=2), call("eat", a=1)]
        self.has(client, "function bare 0 #1 :", "function other 0 #1 :")

    def test_by_the_kind_that_is_made_wherever_it_stands(self):
        client = [call("point"), ("num", 1), ("make", "point", (("x", 1), ("y", 1))), call("rest"),
                  ("sort", 3, (("some", 0),), 2)]
        self.has(client, "function point 0 point :", "record point made x num d y num d")
        client = [call("shape"), ("take", 0, "list", 0), call("bare"), ("form", "shape", "blot", 2),
                  ("form", "shape", "list", 3), ("take", 4, "list", 0)]
        self.has(client, "function shape 0 shape :", "choice shape made open blot #2 list shape")

    def test_numbers_and_words_wherever_they_stand(self):
        client = [call("number"), call("text"), call("rest"), ("num", 1), ("word", ""), ("sort", 2, (("some", 0),), 3),
                  ("sort", 2, (("some", 1),), 4)]
        self.has(client, "function number 0 num :", "function text 0 word :")


class Functions(Leaning):
    def test_each_one_that_is_called_and_no_other(self):
        told = self.told([call("bare"), call("bare"), call("number")])
        self.assertEqual([piece[:2] for piece in told.pieces()], [("function", "bare"), ("function", "number")])

    def test_places_bound_in_some_call(self):
        client = [("num", 1), call("order", a=0), call("order", x=0)]
        self.leans_on(client, "function order 0 #1 a num may x num may :")

    def test_places_due_where_bound_in_each(self):
        client = [("num", 1), call("order", (0, 0), a=0), call("order", (0,), a=0, x=0), call("order", y=0, z=0, a=0)]
        self.leans_on(client, "function order 2 #1 z num due y num may a num due x num may :")

    def test_a_call_that_binds_none(self):
        client = [("num", 1), call("order", (0, 0), a=0), call("order")]
        self.leans_on(client, "function order 2 #1 z num may y num may a num may :")

    def test_plain_is_the_greatest_number_by_place(self):
        for plain in range(4):
            client = [("num", 1), call("order"), call("order", (0,) * plain), call("order", x=0, y=0, z=0)]
            places = ["z num may", "y num may", "x num may"]
            row = " ".join(places[:plain] + sorted(places[plain:]))
            self.leans_on(client, "function order %s #1 %s :" % (plain, row))

    def test_plain_places_stand_first_in_the_order_of_the_face(self):
        client = [("num", 1), call("order", (0, 0, 0), a=0, b=0)]
        self.leans_on(client, "function order 3 #1 z num due y num due x num due a num due b num due :")

    def test_back_and_faults(self):
        client = [("num", 1), call("order", caught=[("u", 0)]), call("order", caught=[("u", 1), ("w", 0)]),
                  call("order")]
        self.leans_on(client, "function order 0 num : u w")

    def test_without_faults_caught(self):
        self.leans_on([call("bare")], "function bare 0 #0 :")


class Records(Leaning):
    def test_made_without_fields(self):
        self.leans_on([("make", "bag", ())], "record bag made")

    def test_made_with_fields(self):
        self.leans_on([("num", 1), ("word", "a"), ("make", "point", (("tag", 1), ("x", 0), ("y", 0)))],
                      "record point made tag word d x num d y num d")

    def test_due_where_each_make_gives_it(self):
        client = [("num", 1), ("word", "a"), ("make", "point", (("tag", 1), ("x", 0), ("y", 0))),
                  ("make", "point", (("x", 0), ("y", 0)))]
        self.leans_on(client, "record point made tag word - x num d y num d")

    def test_sure_where_some_get_gets_it(self):
        client = [("num", 1), ("make", "point", (("x", 0), ("y", 0))), ("get", 1, "x"), ("getor", 1, "x", 0),
                  ("getor", 1, "y", 0)]
        self.leans_on(client, "record point made x num ds y num d")
        self.leans_on(client[:2], "record point made x num d y num d")
        self.leans_on(client[:2] + client[3:], "record point made x num d y num d")

    def test_got_by_getor_alone(self):
        client = [("num", 1), ("word", "a"), ("make", "point", (("x", 0), ("y", 0))), ("getor", 2, "tag", 1)]
        self.leans_on(client, "record point made tag word - x num d y num d")

    def test_not_made(self):
        client = [call("seen"), ("get", 0, "who"), call("bare"), ("getor", 0, "old", 2)]
        self.leans_on(client, "function bare 0 #2 :", "function seen 0 #0 :", "record #0 told old #2 - who #1 s")

    def test_a_made_kind_that_the_client_does_not_make(self):
        client = [call("point"), ("get", 0, "x"), ("plus", 1, 1)]
        self.leans_on(client, "function point 0 #0 :", "record #0 told x num s")

    def test_two_kinds_that_are_made(self):
        client = [("num", 1), ("make", "bag", ()), ("make", "point", (("x", 0), ("y", 0))), ("make", "bag", ())]
        self.leans_on(client, "record bag made", "record point made x num d y num d")

    def test_one_that_is_made_and_one_that_is_not(self):
        client = [("make", "bag", ()), call("seen"), ("get", 1, "who"), call("bare"), ("getor", 1, "old", 3)]
        self.leans_on(client, "function bare 0 #3 :", "function seen 0 #1 :", "record bag made",
                      "record #1 told old #3 - who #2 s")

    def test_a_record_that_is_not_looked_into(self):
        self.leans_on([call("seen")], "function seen 0 #0 :")


class Choices(Leaning):
    def test_made(self):
        client = [call("bare"), ("form", "shape", "blot", 0)]
        self.leans_on(client, "function bare 0 #0 :", "choice shape made open blot #0")

    def test_taken(self):
        client = [call("reply"), call("bare"), ("take", 0, "yes", 1)]
        self.leans_on(client, "function bare 0 #1 :", "function reply 0 #0 :", "choice #0 told open yes #1")

    def test_arms_alone(self):
        client = [call("reply"), ("num", 1), ("sort", 0, (("yes", 1),), 1)]
        self.leans_on(client, "function reply 0 #0 :", "choice #0 told open yes #0.yes")

    def test_arms_alone_of_what_is_made(self):
        client = [call("bare"), ("form", "shape", "blot", 0), ("sort", 1, (("dot", 0), ("list", 0)), 0)]
        self.leans_on(client, "function bare 0 #0 :", "choice shape made open blot #0 dot shape.dot list shape.list")

    def test_arms_that_are_made_or_taken_too(self):
        client = [call("reply"), call("bare"), ("sort", 0, (("no", 1), ("yes", 1)), 1), ("take", 0, "yes", 1)]
        self.leans_on(client, "function bare 0 #1 :", "function reply 0 #0 :",
                      "choice #0 told open no #0.no yes #1")
        # a row of another thing of the class does, too
        client = [call("reply"), call("reply"), call("bare"), ("take", 0, "yes", 2), ("sort", 1, (("yes", 2),), 2)]
        self.leans_on(client, "function bare 0 #2 :", "function reply 0 #0 :", "choice #0 told open yes #2")

    def test_shut_where_some_sort_has_no_z(self):
        client = [call("reply"), ("num", 1), ("sort", 0, (("no", 1), ("yes", 1)), None)]
        rows = ["function reply 0 #0 :", "choice #0 told shut no #0.no yes #0.yes"]
        self.leans_on(client, *rows)
        self.leans_on(client + [("sort", 0, (("no", 1),), 1)], *rows)
        self.leans_on([client[0], client[1], ("sort", 0, (("no", 1),), 1)] + [client[2]], *rows)

    def test_open_where_every_sort_has_z(self):
        client = [call("reply"), ("num", 1), ("sort", 0, (("no", 1), ("yes", 1)), 1)]
        self.leans_on(client, "function reply 0 #0 :", "choice #0 told open no #0.no yes #0.yes")

    def test_z_that_is_the_thing_of_the_first_row(self):
        client = [("num", 1), call("reply"), ("sort", 1, (("no", 0), ("yes", 0)), 0)]
        self.leans_on(client, "function reply 0 #1 :", "choice #1 told open no #1.no yes #1.yes")

    def test_shut_of_one_class_alone(self):
        client = [call("reply"), call("answer"), ("num", 1), ("sort", 0, (("no", 2), ("yes", 2)), None),
                  ("sort", 1, (("no", 2), ("yes", 2)), 2)]
        self.has(client, "choice #0 told shut no #0.no yes #0.yes", "choice #1 told open no #1.no yes #1.yes")

    def test_words_and_functions_that_are_called_like_classes(self):
        client = [call("reply"), ("word", "#0"), ("sort", 0, (("yes", 1),), 1), call("shape"), ("word", "shape"),
                  ("sort", 3, (("dot", 1),), 4)]
        self.leans_on(client, "function reply 0 #0 :", "choice #0 told open yes #0.yes", "function shape 0 #3 :",
                      "choice #3 told open dot #3.dot")

    def test_a_choice_that_is_not_looked_into(self):
        self.leans_on([call("reply")], "function reply 0 #0 :")


class Refused(unittest.TestCase):
    def test_the_first_row_that_is_not_let_by(self):
        good = [("num", 1), call("bare"), call("eat", a=1)]
        for at in range(len(good) + 1):
            for bad in [("plus", 5, 1), call("nothing"), ("make", "seen", ()), ("get", 0, "x"),
                        ("sort", 0, (("a", 0),), 0), call("eat", c=0)]:
                with self.assertRaises(NoClient) as caught:
                    leans(FACE, good[:at] + [bad] + good[at:] + [("glue", 0, "a")])
                self.assertEqual(caught.exception.at, at)
                self.assertIsInstance(caught.exception, FaceError)

    def test_by_the_face_that_is_asked(self):
        with self.assertRaises(NoClient) as caught:
            leans(Face([]), [("num", 1), call("bare")])
        self.assertEqual(caught.exception.at, 1)


class Whole(Leaning):
    def test_a_client_without_rows(self):
        self.assertEqual(leans(FACE, []).pieces(), [])
        self.assertEqual(leans(Face([]), []).pieces(), [])

    def test_numbers_and_words_alone(self):
        client = [("num", 1), ("word", "a"), ("plus", 0, 1), ("glue", 1, "a")]
        self.leans_on(client)
        self.assertEqual(leans(Face([]), client).pieces(), [])

    def test_a_client_that_is_changed_behind_changes_nothing(self):
        client = [call("bare"), call("other")]
        told = leans(FACE, client)
        client.clear()
        self.assertEqual(written(told), "function bare 0 #0 :\nfunction other 0 #1 :")

    def test_over_many_small_faces(self):
        chance = random.Random(25)
        told = []
        for turn in range(300):
            start = some_face(chance)
            client = some_client(chance, start, chance.randrange(8))
            leaned = self.told(client, start)
            # another face lets the client by, bound as in the first, just where it may stand in for the leaned-on
            for other in [changed_face(chance, start, 1), changed_face(chance, leaned, 1), some_face(chance)]:
                told.append(alike(start, other, client))
                self.assertIs(may_stand_in(leaned, other), told[-1],
                              (written(start), client, written(leaned), written(other)))
            # and it leans on no more than that
            self.assertEqual(written(leans(leaned, client)), written(leaned))
        self.assertGreater(told.count(True), 50)
        self.assertGreater(told.count(False), 50)


if __name__ == "__main__":
    unittest.main()
