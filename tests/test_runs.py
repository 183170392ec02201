import itertools
import random
import unittest

from facestead.faces import Face
from facestead.looks import kinds_of, lets_by
from facestead.runs import fits, run

# lists of numbers: a link, or the end
LIST_PIECES = [
    ("choice", "list", True, True, (("end", "num"), ("link", "cell"))),
    ("record", "cell", True, (("head", "num", True, True), ("tail", "list", True, True))),
]
FACE = Face(LIST_PIECES + [
    ("record", "point", True, (("x", "num", True, True), ("y", "num", True, False), ("tag", "word", False, False))),
    ("record", "seen", False, (("who", "person", False, True), ("age", "num", False, False))),
    ("record", "bag", True, ()),
    ("record", "#1.ok", False, (("in", "(a&b)", False, True), ("on", "num", False, True))),
    ("choice", "shape", True, False, (("dot", "point"), ("blot", "word"))),
    ("choice", "reply", False, True, (("yes", "num"), ("no", "word"))),
    ("choice", "(a&b)", False, True, (("a", "#7"), ("b", "#1.ok"))),
    ("choice", "never", False, True, ()),
    ("function", "draw", 2, (("what", "shape", True), ("at", "point", False), ("ink", "word", True),
                             ("zoom", "num", False)), "reply", ("torn", "full", "late")),
    ("function", "add", 2, (("b", "num", True), ("a", "num", False), ("c", "num", False)), "num", ("big", "low")),
    ("function", "seek", 0, (), "seen", ()),
    ("function", "spell", 1, (("n", "num", True),), "word", ()),
    ("function", "spot", 0, (), "point", ()),
    ("function", "ask", 0, (), "reply", ()),
    ("function", "shown", 0, (), "shape", ()),
    ("function", "meet", 0, (), "person", ()),
])

SAMPLES = [0, -3, "", "rec", "form", ("rec", ()), ("rec", (("x", 1),)), ("form", "yes", 1), ("form", "dot", "a")]


def rec(**fields):
    return ("rec", tuple(sorted(fields.items())))


def form(name, value):
    return ("form", name, value)


def chain(links):
    value = form("end", 0)
    for link in range(links):
        value = form("link", rec(head=link, tail=value))
    return value


def answers(value):
    return lambda handed: ("value", value)


class Fits(unittest.TestCase):
    def fit(self, kind, *values):
        for value in values:
            self.assertIs(fits(FACE, kind, value), True, (kind, value))

    def unfit(self, kind, *values):
        for value in values:
            self.assertIs(fits(FACE, kind, value), False, (kind, value))

    def test_num(self):
        self.fit("num", 0, 1, -1, 10 ** 60, -10 ** 60)
        self.unfit("num", "", "1", "num", rec(), rec(x=1), form("a", 1))

    def test_word(self):
        self.fit("word", "", "a", "word", "rec", "form", "a b\nc", "~" * 400)
        self.unfit("word", 0, 1, rec(), form("a", "b"))

    def test_truths_are_no_whole_numbers(self):
        self.unfit("num", True, False)
        self.unfit("point", rec(x=True, y=1))

    def test_a_record_with_its_sure_fields(self):
        self.fit("point", rec(x=1), rec(x=1, y=2), rec(tag="a", x=1, y=2), rec(tag="a", x=0))
        self.unfit("point", rec(), rec(y=2), rec(tag="a", y=2), rec(tag="a"))
        self.fit("seen", rec(who=1), rec(who="a", age=3))
        self.unfit("seen", rec(), rec(age=3))
        self.unfit("#1.ok", rec(on=1), rec(**{"in": form("a", 1)}))

    def test_a_record_whose_fields_are_of_another_kind(self):
        self.unfit("point", rec(x="a"), rec(x=rec()), rec(x=1, y="b"), rec(x=1, tag=3))
        self.unfit("point", rec(x=1, y=2, tag=form("a", 1)))
        self.unfit("seen", rec(who=1, age="a"))

    def test_fields_that_are_not_told_are_of_any_kind(self):
        for value in SAMPLES + [chain(3)]:
            self.fit("point", rec(x=1, z=value), rec(a=value, x=1, y=2, zz=value))
            self.fit("bag", rec(x=value), rec(a=value, b=value))
            self.unfit("point", rec(z=value), rec(xs=value))
        self.fit("bag", rec())

    def test_what_is_no_record(self):
        for kind in ["point", "seen", "bag", "cell", "#1.ok"]:
            self.unfit(kind, 0, "", "rec", "x", form("x", 1), form("rec", rec(x=1)), form("point", rec(x=1)))

    def test_forms_of_a_shut_choice(self):
        self.fit("reply", form("yes", 1), form("no", "a"))
        self.unfit("reply", form("yes", "a"), form("no", 1), form("yes", rec()), form("yes", form("yes", 1)))
        self.unfit("reply", form("maybe", 1), form("ye", 1), form("dot", "a"), form("yess", 1))
        for value in SAMPLES:
            self.unfit("never", form("yes", value), value)

    def test_forms_of_an_open_choice(self):
        self.fit("shape", form("dot", rec(x=1)), form("blot", "a"))
        self.unfit("shape", form("dot", rec()), form("dot", 1), form("blot", 1), form("blot", form("blot", "a")))
        for value in SAMPLES + [chain(3)]:
            self.fit("shape", form("dots", value), form("yes", value), form("a", value))

    def test_what_is_no_form(self):
        for kind in ["reply", "shape", "list", "(a&b)"]:
            self.unfit(kind, 0, "", "form", "yes", "dot", rec(), rec(yes=1), rec(dot=rec(x=1)), rec(form=1))

    def test_bare_kinds(self):
        for kind in ["person", "cat", "draw", "#7", "#1", "#1.ok.on", "(b&a)", "point.x", "num.a", "word.a"]:
            self.fit(kind, chain(4), *SAMPLES)

    def test_made_up_kinds_that_are_told(self):
        self.fit("(a&b)", form("a", chain(2)), form("b", rec(**{"in": form("a", 1), "on": 2})))
        self.fit("#1.ok", rec(**{"in": form("b", rec(**{"in": form("a", "x"), "on": 2})), "on": 3}))
        self.unfit("(a&b)", form("c", 1), form("b", 1), form("b", rec(**{"in": form("c", 1), "on": 2})))
        self.unfit("#1.ok", rec(**{"in": form("b", rec(**{"in": form("a", "x"), "on": "y"})), "on": 3}))

    def test_deep_values(self):
        for links in [0, 1, 34, 35, 200, 1000]:
            self.fit("list", chain(links))
        for end in [form("end", "a"), form("ends", 1), 3, rec()]:
            for links in [34, 500]:
                value = end
                for link in range(links):
                    value = form("link", rec(head=link, tail=value))
                self.unfit("list", value)
                self.fit("person", value)
                self.fit("shape", form("other", value))

    def test_values_of_many_parts(self):
        face = Face(LIST_PIECES + [("record", "tree", False, (("l", "tree", False, False), ("n", "num", False, True),
                                                              ("r", "tree", False, False)))])
        right = rec(n=1)
        wrong = rec(n="a")
        for level in range(11):
            wrong = rec(l=right, n=level, r=wrong)
            right = rec(l=right, n=level, r=right)
        self.assertIs(fits(face, "tree", right), True)
        self.assertIs(fits(face, "tree", wrong), False)
        names = ["".join(letters) for letters in itertools.product("abcdefghijklmnopqrstuvwxyz", repeat=3)][:5200]
        wide = ("rec", tuple([(name, 1) for name in names]))
        self.assertEqual(len(wide[1]), 5200)
        self.fit("bag", wide)
        self.unfit("point", wide)

    def test_by_the_face_that_is_asked(self):
        other = Face([("record", "person", False, (("x", "num", False, True),)), ("choice", "point", False, True, ())])
        self.assertIs(fits(other, "person", 1), False)
        self.assertIs(fits(other, "person", rec(x=1)), True)
        self.assertIs(fits(other, "point", rec(x=1)), False)
        self.assertIs(fits(other, "reply", 1), True)


class Rows(unittest.TestCase):
    def answer(self, client, value, bodies=None):
        self.assertIs(lets_by(FACE, client), True, client)
        self.assertEqual(run(FACE, client, {} if bodies is None else bodies), ("answer", value))

    def test_without_rows(self):
        self.assertEqual(run(FACE, [], {}), ("answer", None))
        self.assertEqual(run(Face([]), [], {"a": answers(1)}), ("answer", None))

    def test_num_and_word(self):
        self.answer([("num", 7)], 7)
        self.answer([("num", 0)], 0)
        self.answer([("word", "a")], "a")
        self.answer([("word", "")], "")

    def test_plus_and_glue(self):
        self.answer([("num", 7), ("plus", 0, 5)], 12)
        self.answer([("num", 7), ("plus", 0, -9)], -2)
        self.answer([("num", 10 ** 59), ("plus", 0, 1)], 10 ** 59 + 1)
        self.answer([("word", "a"), ("glue", 0, "b c")], "ab c")
        self.answer([("word", "a"), ("glue", 0, "")], "a")

    def test_make_and_form(self):
        self.answer([("num", 7), ("make", "point", (("x", 0), ("y", 0)))], rec(x=7, y=7))
        self.answer([("num", 7), ("word", "a"), ("num", 3), ("make", "point", (("tag", 1), ("x", 0), ("y", 2)))],
                    ("rec", (("tag", "a"), ("x", 7), ("y", 3))))
        self.answer([("make", "bag", ())], ("rec", ()))
        self.answer([("word", "a"), ("form", "shape", "blot", 0)], ("form", "blot", "a"))

    def test_get(self):
        bodies = {"spot": answers(rec(x=4)), "seek": answers(rec(age=3, who=form("a", 1)))}
        self.answer([("call", "spot", (), (), ()), ("get", 0, "x")], 4, bodies)
        self.answer([("call", "seek", (), (), ()), ("get", 0, "who")], form("a", 1), bodies)

    def test_getor(self):
        client = [("call", "spot", (), (), ()), ("num", 9), ("getor", 0, "y", 1)]
        self.answer(client, 5, {"spot": answers(rec(x=4, y=5))})
        self.answer(client, 0, {"spot": answers(rec(x=4, y=0))})
        self.answer(client, 9, {"spot": answers(rec(x=4))})
        self.answer(client, 9, {"spot": answers(rec(x=4, yy=5))})

    def test_take(self):
        client = [("call", "shown", (), (), ()), ("word", "z"), ("take", 0, "blot", 1)]
        self.answer(client, "a", {"shown": answers(form("blot", "a"))})
        self.answer(client, "", {"shown": answers(form("blot", ""))})
        self.answer(client, "z", {"shown": answers(form("dot", rec(x=1)))})
        self.answer(client, "z", {"shown": answers(form("other", "b"))})

    def test_sort(self):
        ahead = [("num", 1), ("num", 2), ("num", 3), ("call", "ask", (), (), ())]
        yes, no = {"ask": answers(form("yes", 8))}, {"ask": answers(form("no", "b"))}
        both = ahead + [("sort", 3, (("no", 0), ("yes", 1)), None)]
        self.answer(both, 2, yes)
        self.answer(both, 1, no)
        both = ahead + [("sort", 3, (("no", 0), ("yes", 1)), 2)]
        self.answer(both, 2, yes)
        self.answer(both, 1, no)
        one = ahead + [("sort", 3, (("no", 0),), 2)]
        self.answer(one, 3, yes)
        self.answer(one, 1, no)

    def test_sort_of_an_open_choice(self):
        client = [("num", 1), ("num", 2), ("num", 3), ("call", "shown", (), (), ()),
                  ("sort", 3, (("blot", 0), ("dot", 1)), 2)]
        self.answer(client, 1, {"shown": answers(form("blot", "a"))})
        self.answer(client, 2, {"shown": answers(form("dot", rec(x=1)))})
        self.answer(client, 3, {"shown": answers(form("other", rec(x=1)))})

    def test_sort_with_the_thing_of_the_first_row_for_z(self):
        client = [("num", 5), ("call", "ask", (), (), ()), ("num", 6), ("sort", 1, (("no", 2),), 0)]
        self.answer(client, 5, {"ask": answers(form("yes", 8))})

    def test_the_answer_is_the_value_of_the_last_row(self):
        client = [("num", 1), ("word", "a"), ("make", "bag", ()), ("plus", 0, 1), ("glue", 1, "b")]
        for end, value in enumerate([1, "a", rec(), 2, "ab"]):
            self.answer(client[:end + 1], value)

    def test_a_long_client(self):
        links = 150
        client = [("num", 0), ("form", "list", "end", 0)]
        for link in range(links):
            client.append(("make", "cell", (("head", 0), ("tail", len(client) - 1))))
            client.append(("form", "list", "link", len(client) - 1))
        self.assertIs(lets_by(FACE, client), True)
        told = run(FACE, client, {})
        self.assertEqual(told[0], "answer")
        self.assertIs(fits(FACE, "list", told[1]), True)
        value = told[1]
        for link in range(links):
            value = dict(value[2][1])["tail"]
        self.assertEqual(value, form("end", 0))


class Calls(unittest.TestCase):
    def setUp(self):
        self.handed = []

    def keeping(self, answer):
        def body(handed):
            self.handed.append(handed)
            return answer
        return body

    def test_just_the_bound_places(self):
        bodies = {"add": self.keeping(("value", 5))}
        ahead = [("num", 1), ("num", 2), ("num", 3)]
        for by_place, by_name, handed in [
                ((0,), (), {"b": 1}),
                ((0, 1), (), {"b": 1, "a": 2}),
                ((2, 2), (("c", 2),), {"b": 3, "a": 3, "c": 3}),
                ((0,), (("a", 1), ("c", 2)), {"b": 1, "a": 2, "c": 3}),
                ((), (("b", 2),), {"b": 3}),
                ((), (("a", 0), ("b", 1)), {"a": 1, "b": 2})]:
            client = ahead + [("call", "add", by_place, by_name, ())]
            self.assertIs(lets_by(FACE, client), True)
            self.assertEqual(run(FACE, client, bodies), ("answer", 5))
            self.assertEqual(self.handed.pop(), handed)
            self.assertEqual(self.handed, [])

    def test_without_places(self):
        self.assertEqual(run(FACE, [("call", "seek", (), (), ())], {"seek": self.keeping(("value", rec(who=1)))}),
                         ("answer", rec(who=1)))
        self.assertEqual(self.handed, [{}])
        self.assertIs(type(self.handed[0]), dict)

    def test_bound_by_the_face_that_is_asked(self):
        other = Face([("function", "add", 2, (("a", "num", True), ("b", "num", True)), "num", ())])
        client = [("num", 1), ("num", 2), ("call", "add", (0, 1), (), ())]
        bodies = {"add": lambda handed: ("value", 10 * handed["a"] + handed["b"])}
        self.assertEqual(run(FACE, client, bodies), ("answer", 21))
        self.assertEqual(run(other, client, bodies), ("answer", 12))

    def test_a_body_that_answers_a_value(self):
        for value in SAMPLES:
            self.assertEqual(run(FACE, [("call", "meet", (), (), ())], {"meet": answers(value)}), ("answer", value))

    def test_a_fault_that_is_caught(self):
        ahead = [("num", 1), ("num", 2), ("num", 3)]
        caught = [((("big", 1),), "big", 2), ((("big", 1), ("low", 2)), "low", 3), ((("low", 0),), "low", 1),
                  ((("big", 2), ("low", 2)), "big", 3)]
        for tuples, fault, value in caught:
            client = ahead + [("call", "add", (0,), (), tuples)]
            self.assertIs(lets_by(FACE, client), True)
            self.assertEqual(run(FACE, client, {"add": self.keeping(("fault", fault))}), ("answer", value))
            client = client + [("plus", 3, 10)]
            self.assertEqual(run(FACE, client, {"add": self.keeping(("fault", fault))}), ("answer", value + 10))

    def test_a_value_where_faults_are_caught(self):
        client = [("num", 1), ("call", "add", (0,), (), (("big", 0), ("low", 0)))]
        self.assertEqual(run(FACE, client, {"add": answers(8)}), ("answer", 8))

    def test_a_value_that_is_named_like_a_caught_fault(self):
        face = Face([("function", "say", 0, (), "word", ("big",))])
        client = [("word", "a"), ("call", "say", (), (), (("big", 0),))]
        self.assertEqual(run(face, client, {"say": answers("big")}), ("answer", "big"))

    def test_a_fault_that_is_not_caught(self):
        ahead = [("num", 1), ("num", 2)]
        for tuples, fault in [((), "big"), ((), "low"), ((("big", 1),), "low"), ((("low", 1),), "big")]:
            client = ahead + [("call", "add", (0,), (), tuples)]
            self.assertIs(lets_by(FACE, client), True)
            bodies = {"add": self.keeping(("fault", fault))}
            self.assertEqual(run(FACE, client, bodies), ("fault", fault, 2))
            self.assertEqual(run(FACE, client + [("plus", 2, 1)], bodies), ("fault", fault, 2))
            self.assertEqual(run(FACE, client + [("plus", 1, 1)], bodies), ("fault", fault, 2))

    def test_no_row_behind_a_fault_is_done(self):
        client = [("num", 1), ("call", "add", (0,), (), ()), ("call", "seek", (), (), ()),
                  ("call", "add", (0,), (), ())]
        bodies = {"add": self.keeping(("fault", "low")), "seek": lambda handed: self.fail("done")}
        self.assertEqual(run(FACE, client, bodies), ("fault", "low", 1))
        self.assertEqual(self.handed, [{"b": 1}])

    def test_rows_are_done_in_order_once_each(self):
        client = [("num", 1), ("num", 2), ("call", "add", (1,), (), ()), ("call", "add", (0,), (), ()),
                  ("call", "add", (2, 3), (), ()), ("call", "add", (2, 3), (), ())]
        self.assertEqual(run(FACE, client, {"add": self.keeping(("value", 9))}), ("answer", 9))
        self.assertEqual(self.handed, [{"b": 2}, {"b": 1}, {"b": 9, "a": 9}, {"b": 9, "a": 9}])

    def test_a_new_dict_for_each_call(self):
        client = [("num", 1), ("call", "add", (0,), (), ()), ("call", "add", (0,), (), ())]
        run(FACE, client, {"add": self.keeping(("value", 9))})
        self.assertEqual(self.handed, [{"b": 1}, {"b": 1}])
        self.assertIsNot(self.handed[0], self.handed[1])

    def test_a_body_that_changes_its_dict(self):
        def body(handed):
            self.handed.append(dict(handed))
            handed["b"] = 100
            handed["new"] = 7
            return ("value", 5)
        client = [("num", 1), ("call", "add", (0,), (("c", 0),), ()), ("call", "add", (0,), (("c", 0),), ()),
                  ("plus", 0, 0)]
        self.assertEqual(run(FACE, client, {"add": body}), ("answer", 1))
        self.assertEqual(self.handed, [{"b": 1, "c": 1}, {"b": 1, "c": 1}])

    def test_a_body_that_runs_clients(self):
        inner = [("num", 3), ("plus", 0, 4)]

        def spell(handed):
            return ("value", str(run(FACE, inner, {})[1] + handed["n"]))

        def add(handed):
            if handed["b"] == 0:
                return ("value", 0)
            less = [("num", handed["b"] - 1), ("call", "add", (0,), (), ())]
            return ("value", run(FACE, less, {"add": add})[1] + 2)

        client = [("num", 5), ("call", "add", (0,), (), ()), ("call", "spell", (1,), (), ()), ("glue", 2, "!")]
        self.assertEqual(run(FACE, client, {"add": add, "spell": spell}), ("answer", "17!"))

    def test_more_bodies_than_are_called(self):
        bodies = {"seek": lambda handed: self.fail("called"), "add": answers(3), "other": None}
        self.assertEqual(run(FACE, [("num", 1), ("call", "add", (0,), (), ())], bodies), ("answer", 3))


class Stuck(unittest.TestCase):
    def stuck(self, client, at, bodies, face=FACE):
        self.assertIs(lets_by(face, client), True, client)
        self.assertEqual(run(face, client, bodies), ("stuck", at))
        # what stands behind is not done
        more = client + [("call", "never", (), (), ()), ("num", 1)]
        self.assertEqual(run(face, more, dict(bodies, never=lambda handed: self.fail("done"))), ("stuck", at))

    def test_plus_of_what_is_no_whole_number(self):
        client = [("num", 1), ("call", "add", (0,), (), ()), ("plus", 1, 1)]
        for value in ["", "1", rec(), rec(x=1), form("yes", 1)]:
            self.stuck(client, 2, {"add": answers(value)})

    def test_plus_of_a_truth(self):
        client = [("num", 1), ("call", "add", (0,), (), ()), ("plus", 1, 1)]
        for truth in [True, False]:
            self.stuck(client, 2, {"add": answers(truth)})

    def test_glue_of_what_is_no_text(self):
        client = [("num", 1), ("call", "spell", (0,), (), ()), ("glue", 1, "a")]
        for value in [0, 1, rec(), ("rec", (("x", "a"),)), form("yes", "a")]:
            self.stuck(client, 2, {"spell": answers(value)})

    def test_get_of_what_is_no_record_or_lacks_the_field(self):
        client = [("call", "spot", (), (), ()), ("get", 0, "x")]
        for value in [0, "", "rec", "x", form("x", 1), form("rec", rec(x=1)), rec(), rec(y=1), rec(xx=1)]:
            self.stuck(client, 1, {"spot": answers(value)})

    def test_getor_of_what_is_no_record(self):
        client = [("num", 1), ("call", "spot", (), (), ()), ("getor", 1, "x", 0)]
        for value in [0, "", "rec", "x", form("x", 1), form("rec", rec(x=1))]:
            self.stuck(client, 2, {"spot": answers(value)})
        self.assertEqual(run(FACE, client, {"spot": answers(rec())}), ("answer", 1))

    def test_take_of_what_is_no_form(self):
        client = [("num", 1), ("call", "ask", (), (), ()), ("take", 1, "yes", 0)]
        for value in [0, "", "form", "yes", rec(), rec(yes=1)]:
            self.stuck(client, 2, {"ask": answers(value)})
        self.assertEqual(run(FACE, client, {"ask": answers(form("other", 2))}), ("answer", 1))

    def test_sort_of_what_is_no_form(self):
        for row in [("sort", 1, (("no", 0), ("yes", 0)), None), ("sort", 1, (("yes", 0),), 0)]:
            client = [("num", 1), ("call", "ask", (), (), ()), row]
            for value in [0, "", "form", "yes", rec(), rec(yes=1)]:
                self.stuck(client, 2, {"ask": answers(value)})

    def test_sort_without_z_of_a_form_without_arm(self):
        client = [("num", 1), ("call", "ask", (), (), ()), ("sort", 1, (("no", 0), ("yes", 0)), None)]
        for name in ["other", "ye", "yess", "form"]:
            self.stuck(client, 2, {"ask": answers(form(name, 1))})
        client = [("num", 1), ("call", "ask", (), (), ()), ("sort", 1, (("no", 0), ("yes", 0)), 0)]
        self.assertEqual(run(FACE, client, {"ask": answers(form("other", 1))}), ("answer", 1))

    def test_values_that_do_not_fit_stick_only_where_they_are_used(self):
        client = [("num", 1), ("call", "add", (0,), (), ()), ("make", "point", (("x", 1), ("y", 1))), ("get", 2, "x")]
        self.assertEqual(run(FACE, client, {"add": answers("a")}), ("answer", "a"))
        self.stuck(client + [("plus", 3, 1)], 4, {"add": answers("a")})

    def test_the_first_row_that_cannot_be_done(self):
        client = [("num", 1), ("call", "add", (0,), (), ()), ("plus", 1, 1), ("plus", 1, 1)]
        self.stuck(client, 2, {"add": answers("a")})


class Untouched(unittest.TestCase):
    CLIENT = [("num", 1), ("call", "add", (0, 0), (("c", 0),), (("big", 0),)), ("plus", 1, 1)]

    def test_nothing_handed_in_is_changed(self):
        client, bodies = list(self.CLIENT), {"add": answers(4)}
        were, pieces = dict(bodies), FACE.pieces()
        run(FACE, client, bodies)
        self.assertEqual(client, self.CLIENT)
        self.assertEqual(bodies, were)
        self.assertEqual(FACE.pieces(), pieces)
        value = rec(x=1, y=2)
        fits(FACE, "point", value)
        self.assertEqual(value, rec(x=1, y=2))

    def test_a_body_that_changes_what_was_handed_in(self):
        client, bodies = list(self.CLIENT), {}

        def body(handed):
            client.clear()
            bodies.clear()
            return ("value", 4)
        client.insert(2, ("call", "add", (1,), (), ()))
        bodies["add"] = body
        self.assertEqual(run(FACE, client, bodies), ("answer", 5))

    def test_a_body_that_puts_rows_and_bodies_in(self):
        client, bodies = list(self.CLIENT), {}

        def body(handed):
            client.append(("num", 99))
            client[2] = ("num", 98)
            bodies["add"] = answers(97)
            return ("value", handed["b"] + 3)
        client.insert(2, ("call", "add", (1,), (), ()))
        client[3] = ("plus", 2, 1)
        bodies["add"] = body
        self.assertEqual(run(FACE, client, bodies), ("answer", 8))

    def test_outcomes_are_tuples(self):
        for client, bodies in [([], {}), ([("num", 1)], {}), (self.CLIENT, {"add": answers(4)}),
                               (self.CLIENT, {"add": answers("a")}),
                               (self.CLIENT, {"add": lambda handed: ("fault", "low")})]:
            self.assertIs(type(run(FACE, client, bodies)), tuple)

    def test_pieces_that_are_changed_behind_change_nothing(self):
        pieces = FACE.pieces()
        face = Face(pieces)
        pieces.clear()
        face.pieces().clear()
        bodies = {"add": lambda handed: ("value", sum(handed.values()))}
        self.assertEqual(run(face, self.CLIENT, bodies), ("answer", 4))
        self.assertIs(fits(face, "point", 1), False)


class NeverStick(unittest.TestCase):
    """Clients that a face lets by, put together row by row, run over bodies that keep the face."""

    FUNCTIONS = ["draw", "add", "seek", "spell", "spot", "ask", "shown", "meet"]
    WORDS = ["plus", "glue", "call", "make", "form", "get", "getor", "take", "sort"]

    def setUp(self):
        self.chance = random.Random(5)

    def value_of(self, kind, depth=0):
        told = FACE.kind(kind)
        if kind == "num":
            return self.chance.randrange(-5, 5)
        if kind == "word":
            return self.chance.choice(["", "a", "rec"])
        if told.word() == "bare":
            return self.chance.choice(SAMPLES)
        if told.word() == "choice":
            forms = told.forms() + ([] if told.shut() else ["other"])
            name = "end" if depth > 6 and "end" in forms else self.chance.choice(forms)
            return form(name, self.value_of(told.carried(name) or "person", depth + 1))
        fields = {name: self.value_of(told.field(name)[0], depth + 1) for name in told.fields()
                  if told.field(name)[2] or self.chance.random() < 0.5}
        if self.chance.random() < 0.2:
            fields["zz"] = 1
        return rec(**fields)

    def body(self, name):
        piece = FACE.function(name)

        def answer(handed):
            for place, kind, due in piece[3]:
                self.assertTrue(place in handed or not due)
                self.assertTrue(place not in handed or fits(FACE, kind, handed[place]))
            if piece[5] and self.chance.random() < 0.3:
                return ("fault", self.chance.choice(piece[5]))
            value = self.value_of(piece[4])
            self.assertIs(fits(FACE, piece[4], value), True)
            return ("value", value)
        return answer

    def thing(self, kinds, kind=None):
        # mostly one of the right kind, where there is one
        fit = [at for at in range(len(kinds)) if kinds[at] == kind]
        return self.chance.choice(fit if fit and self.chance.random() < 0.9 else range(len(kinds)))

    def pairs(self, parts, kinds):
        parts = sorted([part for part in parts if self.chance.random() < 0.7])
        return tuple([(name, self.thing(kinds, kind)) for name, kind in parts])

    def call(self, kinds):
        piece = FACE.function(self.chance.choice(self.FUNCTIONS))
        places = [place[:2] for place in piece[3]]
        by_place = tuple([self.thing(kinds, place[1]) for place in places[:self.chance.randrange(piece[2] + 1)]])
        caught = self.pairs([(fault, piece[4]) for fault in piece[5]], kinds)
        return ("call", piece[1], by_place, self.pairs(places[len(by_place):], kinds), caught)

    def make(self, kinds):
        record = FACE.kind(self.chance.choice(["cell", "point", "bag"]))
        return ("make", record.title, self.pairs([(name, record.field(name)[0]) for name in record.fields()], kinds))

    def form(self, kinds):
        choice = FACE.kind(self.chance.choice(["list", "shape"]))
        name = self.chance.choice(choice.forms())
        return ("form", choice.title, name, self.thing(kinds, choice.carried(name)))

    def sort(self, kinds):
        choice = FACE.kind(self.chance.choice(["list", "shape", "reply"]))
        end = self.chance.choice(kinds)
        arms = self.pairs([(name, end) for name in choice.forms()], kinds)
        return ("sort", self.thing(kinds, choice.title), arms, self.chance.choice([self.thing(kinds, end), None]))

    def look(self, word, kinds):
        x = self.thing(kinds)
        kind = FACE.kind(kinds[x])
        name = self.chance.choice(kind.fields() + kind.forms() + ["other"])
        z = self.thing(kinds, kind.carried(name) or (kind.field(name) or [None])[0])
        return ("get", x, name) if word == "get" else (word, x, name, z)

    def row(self, kinds):
        word = self.chance.choice(self.WORDS)
        if word in ["get", "getor", "take"]:
            return self.look(word, kinds)
        if word in ["plus", "glue"]:
            return (word, self.thing(kinds), 1 if word == "plus" else "c")
        return {"call": self.call, "make": self.make, "form": self.form, "sort": self.sort}[word](kinds)

    def client(self, rows):
        client = [("num", 1), ("word", "b")]
        while len(client) < rows:
            row = self.row(kinds_of(FACE, client))
            if lets_by(FACE, client + [row]):
                client.append(row)
        return client

    def test_never_stuck_and_each_value_fits(self):
        bodies = {name: self.body(name) for name in self.FUNCTIONS}
        words, ends = set(), set()
        for turn in range(60):
            client = self.client(25)
            kinds = kinds_of(FACE, client)
            words |= {row[0] for row in client}
            for end in range(1, len(client) + 1, 4):
                told = run(FACE, client[:end], bodies)
                ends.add(told[0])
                self.assertNotEqual(told[0], "stuck", client[:end])
                if told[0] == "answer":
                    self.assertIs(fits(FACE, kinds[end - 1], told[1]), True)
                else:
                    row = client[told[2]]
                    self.assertIn(told[1], FACE.function(row[1])[5])
                    self.assertNotIn(told[1], dict(row[4]))
        self.assertEqual(words, set(self.WORDS) | {"num", "word"})
        self.assertEqual(ends, {"answer", "fault"})


if __name__ == "__main__":
    unittest.main()
