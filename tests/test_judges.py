import random
import unittest

from facestead.faces import Face
from facestead.judges import judge, may_stand_in
from facestead.looks import bound, lets_by
from facestead.texts import written
from small import alike, all_clients, changed_face, face, pairs_of, reached, some_face, used

BARE = Face([])


class Judging(unittest.TestCase):
    """Each answer is held to all that the points 18 and 19 say of it."""

    def told(self, elder, newer):
        shown = "elder:\n%s\nnewer:\n%s" % (written(elder), written(newer))
        answer = judge(elder, newer)
        self.assertIsInstance(answer, tuple, shown)
        self.assertEqual(len(answer), 3, shown)
        word, client, pairs = answer
        self.assertIsInstance(client, list, shown)
        self.assertIsInstance(pairs, list, shown)
        if word == "may":
            self.assert_may(elder, newer, client, pairs, shown)
        else:
            self.assertEqual(word, "not", shown)
            self.assert_not(elder, newer, client, pairs, shown)
        self.assertIs(may_stand_in(elder, newer), word == "may", shown)
        return answer

    def assert_may(self, elder, newer, client, pairs, shown):
        self.assertTrue(alike(elder, newer, client), shown)
        self.assertEqual(pairs_of(elder, newer, client), pairs, shown)
        self.assertEqual(len(set(pairs)), len(pairs), shown)
        self.assertIn(("num", "num"), pairs)
        self.assertIn(("word", "word"), pairs)

    def assert_not(self, elder, newer, client, pairs, shown):
        self.assertTrue(lets_by(elder, client), shown)
        if lets_by(newer, client):
            self.assertEqual(client[-1][0], "call", shown)
            self.assertNotEqual(bound(elder, client[-1]), bound(newer, client[-1]), shown)
        self.assertTrue(alike(elder, newer, client[:-1]), shown)
        self.assertEqual(pairs_of(elder, newer, client[:-1]), pairs, shown)
        things = [thing for row in client for thing in used(row)]
        self.assertEqual(sorted(set(things)), list(range(len(client) - 1)), shown)

    def may(self, elder, newer, *others):
        """others: the reached pairs besides those of numbers and of words"""
        word, client, pairs = self.told(elder, newer)
        self.assertEqual(word, "may", client)
        self.assertEqual(sorted(pairs), sorted((("num", "num"), ("word", "word")) + others))

    def no(self, elder, newer):
        word, client, pairs = self.told(elder, newer)
        self.assertEqual(word, "not")
        return client


class Functions(Judging):
    def test_more_or_gone(self):
        one = face("function f 0 num :")
        both = face("function f 0 num :", "function g 0 word :")
        self.may(one, both)
        self.may(BARE, both)
        self.assertEqual(self.no(both, one), [("call", "g", (), (), ())])
        self.no(one, BARE)

    def test_a_place_more_that_is_not_due(self):
        less = face("function f 0 num p num due :")
        more = face("function f 0 num p num due q num may :")
        self.may(less, more)
        self.assertIn("q", dict(self.no(more, less)[-1][3]))

    def test_a_place_more_that_is_due(self):
        less = face("function f 0 num p num due :")
        more = face("function f 0 num p num due q num due :")
        self.no(less, more)
        self.no(more, less)

    def test_a_place_of_another_kind(self):
        for flag in ["due", "may"]:
            one = face("function f 0 num p num %s :" % flag)
            other = face("function f 0 num p word %s :" % flag)
            self.no(one, other)
            self.no(other, one)

    def test_due_or_no_longer_due(self):
        due = face("function f 0 num p num due :")
        may = face("function f 0 num p num may :")
        self.may(due, may)
        self.assertEqual(self.no(may, due), [("call", "f", (), (), ())])

    def test_due_where_there_is_nothing_to_hand_in(self):
        due = face("function f 0 num p a due :")
        may = face("function f 0 num p a may :")
        self.may(due, may)
        self.no(may, due)

    def test_plain_greater_or_less(self):
        for less in range(3):
            for more in range(less + 1, 4):
                one = face("function f %s num p num may q num may r num may :" % less)
                other = face("function f %s num p num may q num may r num may :" % more)
                self.may(one, other)
                self.assertGreater(len(self.no(other, one)[-1][2]), less)

    def test_plain_places_in_another_order(self):
        one = face("function f 2 num p num due q num due :")
        other = face("function f 2 num q num due p num due :")
        for client in [self.no(one, other), self.no(other, one)]:
            self.assertGreater(len(client[-1][2]), 0)
            self.assertTrue(lets_by(one, client) and lets_by(other, client))

    def test_another_order_behind_those_of_the_elder(self):
        one = face("function f 1 num p num due q num due r num due :")
        other = face("function f 3 num p num due r num due q num due :")
        self.may(one, other)
        self.no(other, one)

    def test_places_by_name_in_another_order(self):
        pieces = [("function", "f", 0, (("p", "num", True), ("q", "num", True)), "num", ())]
        turned = [("function", "f", 0, (("q", "num", True), ("p", "num", True)), "num", ())]
        self.may(Face(pieces), Face(turned))

    def test_a_place_more_among_the_plain_ones(self):
        one = face("function f 2 num p num may q num may :")
        self.no(one, face("function f 3 num a num may p num may q num may :"))
        self.no(one, face("function f 3 num p num may a num may q num may :"))
        self.may(one, face("function f 3 num p num may q num may a num may :"))

    def test_plain_places_that_no_thing_can_go_to(self):
        # nothing is of the kind a, so nothing can be handed in by place behind it
        one = face("function f 3 num p num may q a may r num may :")
        self.may(one, face("function f 1 num p num may q a may r num may :"))
        self.may(one, face("function f 2 num p num may r num may :"))
        self.may(one, face("function f 1 num p num may q num may r num may :"))
        self.no(one, face("function f 0 num p num may q a may r num may :"))
        self.no(face("function f 2 num p num may r num may :"), one)

    def test_a_fault_more_or_gone(self):
        none = face("function f 0 num :")
        one = face("function f 0 num : u")
        both = face("function f 0 num : u v")
        self.may(none, one)
        self.may(one, both)
        self.may(none, both)
        self.assertEqual(dict(self.no(one, none)[-1][4]).keys(), {"u"})
        self.assertIn("v", dict(self.no(both, one)[-1][4]))
        self.no(one, face("function f 0 num : v"))

    def test_a_fault_gone_of_a_bare_answer(self):
        # what is told with the fault must be an answer of a call ahead
        client = self.no(face("function f 0 a : u"), face("function f 0 a :"))
        self.assertEqual(client, [("call", "f", (), (), ()), ("call", "f", (), (), (("u", 0),))])
        self.may(face("function f 0 a :"), face("function f 0 a : u"), ("a", "a"))

    def test_another_back(self):
        for kinds in [("num", "word"), ("word", "num"), ("num", "a"), ("word", "a")]:
            self.no(face("function f 0 %s :" % kinds[0]), face("function f 0 %s :" % kinds[1]))

    def test_another_back_of_which_nothing_can_be_asked(self):
        for kind in ["b", "num", "word", "#1", "(a&a)"]:
            self.may(face("function f 0 a :"), face("function f 0 %s :" % kind), ("a", kind))

    def test_answers_that_are_handed_in(self):
        elder = face("function f 0 a :", "function g 0 num p a due :")
        self.may(elder, face("function f 0 b :", "function g 0 num p b due :"), ("a", "b"))
        self.may(elder, face("function f 0 num :", "function g 0 num p num due :"), ("a", "num"))
        self.no(elder, face("function f 0 b :", "function g 0 num p a due :"))
        self.no(elder, face("function f 0 a :", "function g 0 num p b due :"))

    def test_functions_that_lead_to_others(self):
        rows = ["function f 0 a :"] + ["function g%s 0 %s p %s due :" % (k, l, m) for k, l, m in
                                       [("a", "b", "a"), ("b", "c", "b"), ("c", "d", "c")]]
        elder = face(*rows)
        self.may(elder, elder, ("a", "a"), ("b", "b"), ("c", "c"), ("d", "d"))
        client = self.no(elder, face(*rows[:-1]))
        self.assertEqual([row[1] for row in client], ["f", "ga", "gb", "gc"])


class Records(Judging):
    def test_made_or_no_longer(self):
        told = face("record a told p num -")
        made = face("record a made p num -")
        self.may(told, made)
        self.no(made, told)
        self.may(BARE, made)
        self.no(made, BARE)
        self.may(told, BARE)

    def test_made_without_fields(self):
        elder = face("record a made")
        self.may(elder, face("record a made p num -"), ("a", "a"))
        self.no(elder, face("record a made p num d"))
        self.no(elder, face("choice a made open p num"))

    def test_a_field_more(self):
        less = face("record a made p num ds")
        self.may(less, face("record a made p num ds q num -"), ("a", "a"))
        self.no(less, face("record a made p num ds q num d"))
        self.no(face("record a made p num ds q num -"), less)
        self.no(face("record a made p num ds q num d"), less)

    def test_due(self):
        may = face("record a made p num -")
        due = face("record a made p num d")
        self.may(due, may, ("a", "a"))
        self.no(may, due)

    def test_sure(self):
        sure = face("record a made p num ds")
        due = face("record a made p num d")
        self.may(due, sure, ("a", "a"))
        client = self.no(sure, due)
        self.assertEqual(client[-1][0], "get")

    def test_a_field_of_another_kind(self):
        for flags in ["ds", "d", "-"]:
            self.no(face("record a made p num %s" % flags), face("record a made p word %s" % flags))

    def test_told_records_that_are_answers(self):
        def faces(record):
            return face("function f 0 a :", *record)
        elder = faces(["record a told p num s"])
        self.may(elder, faces(["record a told p num s q num s"]), ("a", "a"))
        self.may(elder, faces(["record a made p num ds"]), ("a", "a"))
        self.no(elder, faces(["record a told p num -"]))
        self.no(elder, faces(["record a told q num s"]))
        self.no(elder, faces(["record a told p word s"]))
        self.no(elder, faces(["choice a told shut p num"]))
        self.no(elder, faces([]))
        self.may(faces([]), elder, ("a", "a"))
        self.may(faces(["record a told"]), faces([]), ("a", "a"))

    def test_a_field_that_is_not_sure(self):
        elder = face("function f 0 a :", "record a told p num -")
        client = self.no(elder, face("function f 0 a :", "record a told"))
        self.assertEqual(client[-1][0], "getor")
        self.no(elder, face("function f 0 a :", "record a told p word -"))
        self.may(elder, face("function f 0 a :", "record a told p num s"), ("a", "a"))

    def test_a_field_that_is_not_sure_and_for_which_there_is_no_other_thing(self):
        elder = face("function f 0 a :", "record a told p b -")
        self.may(elder, face("function f 0 a :"), ("a", "a"))
        self.may(elder, face("function f 0 a :", "record a told p c -"), ("a", "a"))
        # with a thing of that kind it can be asked for
        rows = ["function f 0 a :", "function g 0 b :"]
        self.no(face("record a told p b -", *rows), face(*rows))
        self.no(face("record a told p b -", *rows), face("record a told p c -", *rows))

    def test_fields_lead_to_other_records(self):
        rows = ["function f 0 a :", "record a told p b s", "record b told p c s", "record c told p num s"]
        self.may(face(*rows), face(*rows), ("a", "a"), ("b", "b"), ("c", "c"))
        client = self.no(face(*rows), face(*rows[:-1]))
        self.assertEqual([row[0] for row in client], ["call", "get", "get", "get"])

    def test_a_record_within_itself(self):
        elder = face("function f 0 a :", "record a told p a s")
        self.may(elder, elder, ("a", "a"))
        by_turns = face("function f 0 a :", "record a told p b s", "record b told p a s")
        self.may(by_turns, elder, ("a", "a"), ("b", "a"))
        # the thing itself would do for z in the elder face
        self.assertEqual(self.no(elder, by_turns)[-1][0], "getor")


class Choices(Judging):
    def test_made_or_no_longer(self):
        told = face("choice a told open p num")
        made = face("choice a made open p num")
        self.may(told, made)
        self.no(made, told)
        self.no(made, BARE)
        self.no(made, face("record a made p num -"))

    def test_open_and_shut(self):
        for word in ["made", "told"]:
            rows = ["function f 0 a :"]
            shut = face("choice a %s shut p num" % word, *rows)
            other = face("choice a %s open p num" % word, *rows)
            self.may(other, shut, ("a", "a"))
            client = self.no(shut, other)
            self.assertEqual((client[-1][0], client[-1][3]), ("sort", None))

    def test_a_form_more_or_gone(self):
        def faces(shut, forms):
            return face("choice a made %s %s" % (shut, forms))
        self.may(faces("open", "p num"), faces("open", "p num q num"), ("a", "a"))
        self.may(faces("open", "p num"), faces("shut", "p num q num"), ("a", "a"))
        self.no(faces("shut", "p num"), faces("shut", "p num q num"))
        self.no(faces("open", "p num q num"), faces("open", "p num"))
        self.no(faces("shut", "p num q num"), faces("shut", "p num"))

    def test_a_form_more_or_gone_of_what_is_told(self):
        def faces(shut, forms):
            return face("choice a told %s %s" % (shut, forms), "function f 0 a :")
        self.may(faces("open", "p b"), faces("open", "p b q num"), ("a", "a"))
        self.no(faces("shut", "p b"), faces("shut", "p b q b"))
        # nothing is of the kind b, but p may be an arm
        self.assertEqual(self.no(faces("open", "p b"), faces("open", "q b"))[-1][0], "sort")
        self.assertEqual(self.no(faces("shut", "p b q b"), faces("shut", "p b"))[-1][0], "sort")
        self.no(faces("open", "p b"), face("function f 0 a :"))
        self.no(faces("open", "p b"), face("function f 0 a :", "record a told p b s"))

    def test_carrying_another_kind(self):
        self.no(face("choice a made open p num"), face("choice a made open p word"))
        told = ["function f 0 a :"]
        self.no(face("choice a told open p num", *told), face("choice a told open p word", *told))
        self.may(face("choice a told open p b", *told), face("choice a told open p c", *told), ("a", "a"))
        self.may(face("choice a told open p b", *told), face("choice a told open p num", *told), ("a", "a"))
        told.append("function g 0 b :")
        client = self.no(face("choice a told open p b", *told), face("choice a told open p c", *told))
        self.assertEqual(client[-1][0], "take")

    def test_without_forms(self):
        rows = ["function f 0 a :"]
        for shut in ["shut", "open"]:
            elder = face("choice a told %s" % shut, *rows)
            self.may(elder, face(*rows), ("a", "a"))
            self.may(elder, face("record a told", *rows), ("a", "a"))
            self.may(elder, face("choice a told open p num", *rows), ("a", "a"))
            # nothing can be made of it
            self.may(face("choice a made %s" % shut), BARE)


class OutOfReach(Judging):
    """Kinds that no client can make or reach: what they tell makes no difference."""

    def test_functions_that_cannot_be_called(self):
        elder = face("function f 2 num p num due q a due : u", "record b told p num s")
        for newer in [BARE, face("function f 0 word : v"), face("function f 1 a p word due :")]:
            self.may(elder, newer)

    def test_answers_of_functions_that_cannot_be_called(self):
        elder = face("function f 0 b p a due :", "function g 0 num p b due :", "record b told p num s")
        self.may(elder, BARE)
        self.may(elder, face("record b told p word s", "function g 0 word p num due :"))

    def test_places_to_which_nothing_can_be_handed_in(self):
        elder = face("function f 0 num p a may :")
        for newer in [face("function f 0 num :"), face("function f 0 num p b may :"), elder,
                      face("function f 1 num p num may :")]:
            self.may(elder, newer)
        self.no(elder, face("function f 0 num p a due :"))
        self.no(elder, face("function f 0 num q num due :"))

    def test_records_that_cannot_be_made(self):
        for fields in ["p b d", "p a ds", "p num d q a d"]:
            self.may(face("record a made %s" % fields), BARE)
            self.may(face("record a made %s" % fields), face("choice a made shut p num"))

    def test_records_that_need_one_another(self):
        self.may(face("record a made p b d", "record b made p a d"), BARE)
        elder = face("record a made p b d", "record b made p a -")
        self.may(elder, elder, ("a", "a"), ("b", "b"))
        self.no(elder, face("record b made p a -"))

    def test_choices_that_cannot_be_made(self):
        self.may(face("choice a made shut p a q b"), BARE)
        elder = face("choice a made shut p a q num")
        self.may(elder, elder, ("a", "a"))
        self.no(elder, face("choice a made shut q num"))

    def test_fields_and_forms_of_unreached_kinds(self):
        self.may(face("record a made p b -"), face("record a made"), ("a", "a"))
        self.may(face("record a made p b -"), face("record a made p c -"), ("a", "a"))
        self.may(face("choice a made open p num q b"), face("choice a made open p num q c"), ("a", "a"))

    def test_told_kinds_of_which_there_is_no_thing(self):
        elder = face("record a told p num s", "choice b told shut p num", "record #1 told p num s")
        self.may(elder, BARE)
        self.may(elder, face("record b told p num s", "choice a told shut p num"))


class UnlikeKinds(Judging):
    def test_records_that_allow_the_same(self):
        elder = face("function f 0 a :", "record a told p num s q word -")
        newer = face("function f 0 #1 :", "record #1 told p num s q word - r num s", "record a told")
        self.may(elder, newer, ("a", "#1"))
        self.no(newer, elder)

    def test_choices_that_allow_the_same(self):
        elder = face("function f 0 a :", "choice a told shut p num q b")
        newer = face("function f 0 (a&b) :", "choice (a&b) told shut p num q b")
        self.may(elder, newer, ("a", "(a&b)"))
        self.may(newer, elder, ("(a&b)", "a"))

    def test_two_kinds_of_the_elder_are_one_of_the_newer(self):
        elder = face("function f 0 a :", "function g 0 b :", "record a told p num s", "record b told q num s")
        newer = face("function f 0 c :", "function g 0 c :", "record c told p num s q num s")
        self.may(elder, newer, ("a", "c"), ("b", "c"))
        # the elder does not let a client hand in a thing of g where one of f is asked for
        self.may(face("function f 0 a :", "function g 0 b :", "function h 0 num p a due :"),
                 face("function f 0 c :", "function g 0 c :", "function h 0 num p c due :"), ("a", "c"), ("b", "c"))

    TORN = ["function f 0 a :", "function g 0 a :"]
    TORN_NEWER = ["function f 0 a :", "function g 0 b :"]

    def torn(self, rows, newer_rows):
        return face(*self.TORN + rows), face(*self.TORN_NEWER + newer_rows)

    def test_one_kind_of_the_elder_is_two_of_the_newer(self):
        elder, newer = self.torn([], [])
        self.may(elder, newer, ("a", "a"), ("a", "b"))
        self.may(newer, elder, ("a", "a"), ("b", "a"))

    def test_two_of_the_newer_that_are_both_looked_into(self):
        elder, newer = self.torn(["record a told p num s"], ["record a told p num s", "record b told p num s"])
        self.may(elder, newer, ("a", "a"), ("a", "b"))
        for row in ["record b told p num -", "record b told p word s", "record b told", "record a told p word s"]:
            self.no(elder, self.torn([], [row])[1])
        self.no(elder, self.torn([], ["record a told p num s"])[1])
        self.no(elder, self.torn([], ["record b told p num s"])[1])

    def test_two_of_the_newer_handed_in(self):
        for kind in ["a", "b"]:
            elder, newer = self.torn(["function h 0 num p a due :"], ["function h 0 num p %s due :" % kind])
            self.no(elder, newer)
            elder, newer = self.torn(["function h 1 num p a may :"], ["function h 1 num p %s may :" % kind])
            self.no(elder, newer)

    def test_two_of_the_newer_given(self):
        for kind in ["a", "b"]:
            for flags in ["ds", "d", "-"]:
                elder, newer = self.torn(["record c made p a %s" % flags], ["record c made p %s %s" % (kind, flags)])
                self.no(elder, newer)

    def test_two_of_the_newer_carried(self):
        for kind in ["a", "b"]:
            elder, newer = self.torn(["choice c made open p a"], ["choice c made open p %s" % kind])
            self.no(elder, newer)

    def test_two_of_the_newer_told_with_a_fault(self):
        for at in [0, 1]:
            rows, newer_rows = list(self.TORN), list(self.TORN_NEWER)
            rows[at] += " u"
            newer_rows[at] += " u"
            self.assertEqual(self.no(face(*rows), face(*newer_rows))[-1][0], "call")

    def test_two_of_the_newer_for_a_field(self):
        for kind in ["a", "b"]:
            elder, newer = self.torn(["record c told p a -", "function h 0 c :"],
                                     ["record c told p %s -" % kind, "function h 0 c :"])
            self.assertEqual(self.no(elder, newer)[-1][0], "getor")

    def test_two_of_the_newer_for_a_form_and_in_a_sort(self):
        for kind in ["a", "b"]:
            elder, newer = self.torn(["choice c told open p a", "function h 0 c :"],
                                     ["choice c told open p %s" % kind, "function h 0 c :"])
            self.no(elder, newer)
        # what the choice carries need not be of that kind: arms and z may be any things of one kind
        for shut in ["open", "shut"]:
            rows = ["choice c told %s p num q num" % shut, "function h 0 c :"]
            elder, newer = self.torn(rows, rows)
            self.assertEqual(self.no(elder, newer)[-1][0], "sort")
        rows = ["choice c told shut p num", "function h 0 c :"]
        elder, newer = self.torn(rows, rows)
        self.assertEqual(self.no(elder, newer)[-1][0], "sort")

    def test_two_of_the_newer_beside_a_choice_without_forms(self):
        rows = ["choice c told shut", "function h 0 c :"]
        elder, newer = self.torn(rows, rows)
        self.may(elder, newer, ("a", "a"), ("a", "b"), ("c", "c"))

    def test_each_look_into_a_thing_for_itself(self):
        # a and b have each a field of its own kind: a thing of the one does not do for the other
        rows = ["record a told p a -"]
        elder, newer = self.torn(rows, rows + ["record b told p b -"])
        self.assertEqual(self.no(elder, newer)[-1][0], "getor")
        rows = ["record a told p a s"]
        elder, newer = self.torn(rows, rows + ["record b told p b s"])
        self.assertEqual(self.no(elder, newer)[-1][0], "getor")
        rows = ["choice a told open p a"]
        elder, newer = self.torn(rows, rows + ["choice b told open p b"])
        self.no(elder, newer)

    def test_numbers_and_words_that_are_something_else_too(self):
        self.assertEqual(self.no(face("function f 0 num :"), face("function f 0 a :"))[-1][0], "plus")
        self.assertEqual(self.no(face("function f 0 word :"), face("function f 0 a :"))[-1][0], "glue")
        self.may(face("function f 0 a :"), face("function f 0 num :"), ("a", "num"))
        self.may(face("function f 0 a : u"), face("function f 0 word : u"), ("a", "word"))
        # the elder's f takes its own answers alone
        self.may(face("function f 0 a p a may :"), face("function f 0 num p num may :"), ("a", "num"))
        self.no(face("function f 0 num p num may :"), face("function f 0 a p a may :"))


class Whole(Judging):
    def test_the_face_without_pieces(self):
        self.may(BARE, BARE)
        word, client, pairs = judge(BARE, BARE)
        self.assertEqual(sorted([row[0] for row in client]), ["num", "word"])

    def test_a_face_and_itself(self):
        chance = random.Random(18)
        for turn in range(100):
            some = some_face(chance)
            self.may(some, some, *[pair for pair in reached(some, some) if pair[0] not in ["num", "word"]])
            self.may(some, Face(some.pieces()[::-1]),
                     *[pair for pair in reached(some, some) if pair[0] not in ["num", "word"]])

    def test_every_row_over_all_reached_pairs(self):
        chance = random.Random(19)
        words, pairs_told = [], []
        for turn in range(600):
            elder = some_face(chance)
            newer = changed_face(chance, elder, chance.randrange(1, 4))
            word, client, pairs = self.told(elder, newer)
            told = reached(elder, newer)
            self.assertEqual(word, "not" if told is None else "may", (written(elder), written(newer)))
            if told is not None:
                self.assertEqual(sorted(pairs), told)
                pairs_told += pairs
            words.append(word if word == "may" else client[-1][0])
        # so many different ends have been met
        self.assertGreater(words.count("may"), 100)
        for word in ["call", "make", "form", "get", "take", "sort"]:
            self.assertIn(word, words)
        self.assertTrue(any(one != other for one, other in pairs_told))

    def test_every_small_client(self):
        chance = random.Random(20)
        words = []
        for turn in range(120):
            elder = some_face(chance, 3)
            newer = changed_face(chance, elder)
            word, client, pairs = self.told(elder, newer)
            words.append(word)
            told = [alike(elder, newer, small) for small in all_clients(elder, 3)]
            if word == "may":
                self.assertNotIn(False, told, (written(elder), written(newer)))
            if False in told:
                self.assertEqual(word, "not")
        self.assertEqual(set(words), {"may", "not"})

    def test_nothing_handed_in_is_changed(self):
        elder = face("function f 0 a :", "record a told p num s")
        newer = face("function f 0 a :")
        before = (elder.pieces(), newer.pieces())
        judge(elder, newer)
        judge(newer, elder)
        self.assertEqual((elder.pieces(), newer.pieces()), before)

    def test_told_lists_are_the_askers_own(self):
        elder = face("function f 0 a :", "record a told p num s")
        newer = face("function f 0 a :")
        for one, other in [(elder, newer), (elder, elder)]:
            word, client, pairs = judge(one, other)
            kept = (word, list(client), list(pairs))
            client.clear()
            pairs.append(None)
            self.assertEqual(judge(one, other), kept)


if __name__ == "__main__":
    unittest.main()
