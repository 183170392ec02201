import random
import unittest

from facestead.faces import Face
from facestead.judges import may_stand_in
from facestead.kinds import is_kind
from facestead.looks import kinds_of, lets_by
from facestead.meets import meet, pair_kind
from facestead.texts import written
from small import alike, all_clients, changed_face, face, some_client, some_face

BARE = Face([])


class PairKinds(unittest.TestCase):
    def test_a_name_and_itself(self):
        for name in ["a", "point", "num", "word", "abcdefghijkl"]:
            self.assertEqual(pair_kind(name, name), name)

    def test_a_made_up_text_and_itself(self):
        self.assertEqual(pair_kind("#3", "#3"), "(#3&#3)")
        self.assertEqual(pair_kind("#3.ok", "#3.ok"), "(#3.ok&#3.ok)")
        self.assertEqual(pair_kind("a.ok", "a.ok"), "(a.ok&a.ok)")
        self.assertEqual(pair_kind("(a&b)", "(a&b)"), "((a&b)&(a&b))")

    def test_two_kinds(self):
        self.assertEqual(pair_kind("a", "b"), "(a&b)")
        self.assertEqual(pair_kind("b", "a"), "(b&a)")
        self.assertEqual(pair_kind("num", "word"), "(num&word)")
        self.assertEqual(pair_kind("a", "#1"), "(a&#1)")
        self.assertEqual(pair_kind("(a&b)", "(b&a)"), "((a&b)&(b&a))")
        self.assertEqual(pair_kind("a", "(a&a)"), "(a&(a&a))")

    def test_it_is_a_kind_and_tells_the_pair(self):
        kinds = ["num", "a", "b", "#1", "#1.ok", "a.ok", "(a&b)", "(b&a)", "(a&a)", "((a&b)&a)", "(a&(b&a))"]
        told = [pair_kind(k, l) for k in kinds for l in kinds]
        self.assertTrue(all([is_kind(kind) for kind in told]))
        self.assertEqual(len(set(told)), len(told))


class Meeting(unittest.TestCase):
    def meets(self, one, other, *rows):
        """one and other: lists of rows; rows: those of their meet"""
        told = meet(face(*one), face(*other))
        self.assertIsInstance(told, Face)
        self.assertEqual(written(told), written(face(*rows)))


class Functions(Meeting):
    def test_one_that_both_have(self):
        self.meets(["function f 0 num :"], ["function f 0 num :"], "function f 0 num :")

    def test_one_that_the_other_has_not(self):
        self.meets(["function f 0 num :", "function g 0 num :"], ["function g 0 num :", "function h 0 num :"],
                   "function g 0 num :")
        self.meets(["function f 0 num :"], [])
        self.meets([], ["function f 0 num :"])

    def test_a_kind_of_the_same_name_is_no_function(self):
        self.meets(["function f 0 num :"], ["record f made"])
        self.meets(["choice f told shut"], ["function f 0 num :"])

    def test_a_due_place_that_is_no_place_of_the_other(self):
        self.meets(["function f 0 num p num due :"], ["function f 0 num :"])
        self.meets(["function f 0 num :"], ["function f 0 num p num due :"])
        self.meets(["function f 0 num p num due q num due :"], ["function f 0 num p num due r num may :"])

    def test_a_due_place_that_is_a_place_of_the_other(self):
        self.meets(["function f 0 num p num due :"], ["function f 0 num p num may :"],
                   "function f 0 num p num due :")
        self.meets(["function f 0 num p num may :"], ["function f 0 num p num due :"],
                   "function f 0 num p num due :")

    def test_a_place_that_is_due_in_none(self):
        self.meets(["function f 0 num p num may :"], ["function f 0 num p num may :"],
                   "function f 0 num p num may :")

    def test_places_that_both_have(self):
        self.meets(["function f 0 num o num may p num may q num due :"],
                   ["function f 0 num p num due q num may r num may :"],
                   "function f 0 num p num due q num due :")
        self.meets(["function f 0 num p num may :"], ["function f 0 num q num may :"], "function f 0 num :")

    def test_kinds_of_places(self):
        self.meets(["function f 0 num p num due q a due r #1 due s word may :"],
                   ["function f 0 num p num due q b due r #1 due s num may :"],
                   "function f 0 num p num due q (a&b) due r (#1&#1) due s (word&num) may :")

    def test_plain_is_that_of_both(self):
        for one in range(4):
            for other in range(4):
                rows = ["function f %s num p num may q num may r num may :" % plain
                        for plain in [one, other, min(one, other)]]
                self.meets(rows[:1], rows[1:2], rows[2])

    def test_plain_ends_where_names_differ(self):
        self.meets(["function f 3 num p num may q num may r num may :"],
                   ["function f 3 num p num may r num may q num may :"],
                   "function f 1 num p num may q num may r num may :")
        self.meets(["function f 2 num p num may q num may :"], ["function f 2 num q num may p num may :"],
                   "function f 0 num p num may q num may :")
        # r is plain in both, and stands in the same place in both, but behind a place that differs
        self.meets(["function f 3 num p num may q num may r num may :"],
                   ["function f 3 num p num may s num may r num may :"],
                   "function f 1 num p num may r num may :")

    def test_plain_places_stand_first_in_their_order(self):
        self.meets(["function f 3 num z num due y num due b num due a num may :"],
                   ["function f 2 num z num due y num due a num may b num may :"],
                   "function f 2 num z num due y num due a num may b num due :")

    def test_plain_hangs_on_names_alone(self):
        self.meets(["function f 2 num p num may q a may :"], ["function f 2 num p word due q b may :"],
                   "function f 2 num p (num&word) due q (a&b) may :")

    def test_back(self):
        self.meets(["function f 0 a :"], ["function f 0 a :"], "function f 0 a :")
        self.meets(["function f 0 a :"], ["function f 0 b :"], "function f 0 (a&b) :")
        self.meets(["function f 0 word :"], ["function f 0 num :"], "function f 0 (word&num) :")

    def test_faults(self):
        self.meets(["function f 0 num : u v"], ["function f 0 num : v w"], "function f 0 num : v")
        self.meets(["function f 0 num : u"], ["function f 0 num : w"], "function f 0 num :")


class Records(Meeting):
    def test_fields_that_both_have(self):
        self.meets(["record a made o num - p num -"], ["record a made p num - q num -"], "record a made p num -")

    def test_sure_where_sure_in_both(self):
        self.meets(["record a told p num s q num s r num - s num -"], ["record a told p num s q num - r num s s num -"],
                   "record a told p num s q num - r num - s num -")
        self.meets(["record a made p num ds q num ds"], ["record a made p num ds q num d"],
                   "record a made p num ds q num d")

    def test_kinds_of_fields(self):
        self.meets(["record a told p num s q b - r #1 - s word -"], ["record a told p num s q c - r #1 - s num -"],
                   "record a told p num s q (b&c) - r (#1&#1) - s (word&num) -")

    def test_made_where_both_are(self):
        self.meets(["record a made"], ["record a made"], "record a made")
        self.meets(["record a made"], ["record a told"], "record a told")
        self.meets(["record a told"], ["record a made"], "record a told")
        self.meets(["record a told"], ["record a told"], "record a told")

    def test_not_made_where_the_kinds_differ(self):
        self.meets(["function f 0 a :", "record a made p num ds"], ["function f 0 b :", "record b made p num ds"],
                   "function f 0 (a&b) :", "record (a&b) told p num s")

    def test_not_made_where_a_due_field_is_lacking(self):
        self.meets(["record a made p num ds q num d"], ["record a made p num ds"], "record a told p num s")
        self.meets(["record a made p num ds"], ["record a made p num ds q num d"], "record a told p num s")

    def test_made_where_a_lacking_field_is_not_due(self):
        self.meets(["record a made p num ds q num -"], ["record a made p num ds r num -"], "record a made p num ds")

    def test_due_where_due_in_one_of_both(self):
        self.meets(["record a made p num d q num d r num - s num -"], ["record a made p num d q num - r num d s num -"],
                   "record a made p num d q num d r num d s num -")

    def test_none_is_due_where_it_is_not_made(self):
        self.meets(["record a made p num ds q num d"], ["record a told p num s q num -"],
                   "record a told p num s q num -")


class Choices(Meeting):
    def test_forms_that_both_have(self):
        self.meets(["choice a told open o num p num"], ["choice a told open p num q num"], "choice a told open p num")
        self.meets(["choice a told open p num"], ["choice a told open q num"], "choice a told open")

    def test_shut_where_both_are_and_have_the_same_forms(self):
        def rows(shut, forms):
            return ["choice a told %s %s" % (shut, forms)]
        self.meets(rows("shut", "p num q num"), rows("shut", "p num q num"), "choice a told shut p num q num")
        self.meets(rows("shut", "p num q num"), rows("open", "p num q num"), "choice a told open p num q num")
        self.meets(rows("open", "p num q num"), rows("shut", "p num q num"), "choice a told open p num q num")
        self.meets(rows("open", "p num"), rows("open", "p num"), "choice a told open p num")
        self.meets(rows("shut", "p num q num"), rows("shut", "p num"), "choice a told open p num")
        self.meets(rows("shut", "p num"), rows("shut", "p num q num"), "choice a told open p num")
        self.meets(rows("shut", "p num"), rows("shut", "q num"), "choice a told open")

    def test_shut_without_forms(self):
        self.meets(["choice a told shut"], ["choice a told shut"], "choice a told shut")
        self.meets(["choice a told shut"], ["choice a told open"], "choice a told open")

    def test_shut_hangs_on_names_alone(self):
        self.meets(["choice a told shut p num q b"], ["choice a told shut p word q c"],
                   "choice a told shut p (num&word) q (b&c)")

    def test_made_where_both_are(self):
        self.meets(["choice a made open p num"], ["choice a made open p num"], "choice a made open p num")
        self.meets(["choice a made open p num"], ["choice a told open p num"], "choice a told open p num")
        self.meets(["choice a told open p num"], ["choice a made open p num"], "choice a told open p num")
        # it may be made of no form
        self.meets(["choice a made open p num"], ["choice a made open q num"], "choice a made open")

    def test_not_made_where_the_kinds_differ(self):
        self.meets(["function f 0 a :", "choice a made shut p num"], ["function f 0 b :", "choice b made shut p num"],
                   "function f 0 (a&b) :", "choice (a&b) told shut p num")


class Told(Meeting):
    def test_nothing_of_other_pairs(self):
        self.meets(["record a made p num -"], ["choice a made open p num"])
        self.meets(["choice a made open p num"], ["record a made p num -"])
        self.meets(["record a made p num -"], ["function f 0 a :"])
        rows = ["function f 0 a :"]
        self.meets(rows + ["record a told p num s"], rows + ["choice a told shut p num"], "function f 0 a :")
        self.meets(rows + ["record a told p num s"], rows, "function f 0 a :")
        self.meets(rows, rows + ["choice a told open"], "function f 0 a :")

    def test_names_and_themselves_whether_they_stand_elsewhere_or_not(self):
        self.meets(["record a told", "choice b told open", "record c told"],
                   ["record a told", "choice b told open", "record d told"], "record a told", "choice b told open")

    def test_made_up_texts_only_where_they_stand_in_a_piece(self):
        rows = ["record #1 told p num s"]
        self.meets(rows, rows)
        self.meets(rows + ["function f 0 #1 :"], rows + ["function f 0 #1 :"],
                   "function f 0 (#1&#1) :", "record (#1&#1) told p num s")
        rows = ["choice (a&b) told shut"]
        self.meets(rows, rows)

    def test_pairs_of_two_kinds_only_where_they_stand_in_a_piece(self):
        self.meets(["record a told"], ["record b told"])
        for kind, row in [("back", "function f 0 %s :"), ("place", "function f 0 num p %s may :"),
                          ("field", "record c told p %s -"), ("form", "choice c told open p %s")]:
            with self.subTest(kind):
                self.meets(["record a told q num s", row % "a"], ["record b told q num s", row % "b"],
                           row % "(a&b)", "record (a&b) told q num s")

    def test_pairs_in_pieces_of_pairs(self):
        one = ["function f 0 a :", "record a told p b s", "choice b told shut q c", "record c told r a s"]
        other = ["function f 0 #1 :", "record #1 told p #2 s", "choice #2 told shut q #3", "record #3 told r #1 s"]
        self.meets(one, other, "function f 0 (a&#1) :", "record (a&#1) told p (b&#2) s",
                   "choice (b&#2) told shut q (c&#3)", "record (c&#3) told r (a&#1) s")

    def test_pairs_that_come_by_turns(self):
        one = ["function f 0 a :", "record a told p b s", "record b told p a s"]
        other = ["function f 0 a :", "record a told p b s", "record b told p c s", "record c told p a s"]
        told = ["record a told p b s", "record b told p (a&c) s", "record (a&c) told p (b&a) s",
                "record (b&a) told p (a&b) s", "record (a&b) told p (b&c) s", "record (b&c) told p a s"]
        self.meets(one, other, "function f 0 a :", *told)

    def test_not_of_kinds_in_functions_and_fields_that_are_left_out(self):
        one = ["function f 0 a p num due :", "record c told p a s", "record a told", "choice d told open p a"]
        other = ["function f 0 b :", "record c told q b s", "record b told", "choice d told open q b"]
        self.meets(one, other, "record c told", "choice d told open")

    def test_the_meet_of_a_face_with_itself(self):
        rows = ["function f 1 a p num due q b may : u", "record a made p num ds", "choice b told shut p a q c"]
        self.meets(rows, rows, *rows)

    def test_the_meet_with_the_face_without_pieces(self):
        rows = ["function f 0 num :", "record a made", "choice b made open p num"]
        self.meets(rows, [])
        self.meets([], rows)
        self.meets([], [])

    def test_the_meet_of_a_meet(self):
        one, other = face("function f 0 a :", "record a told p num s"), face("function f 0 b :", "record b told p num s")
        told = meet(meet(one, other), meet(one, other))
        self.assertEqual(written(told), "function f 0 ((a&b)&(a&b)) :\nrecord ((a&b)&(a&b)) told p num s")
        self.assertEqual(written(meet(meet(one, other), one)),
                         "function f 0 ((a&b)&a) :\nrecord ((a&b)&a) told p num s")

    def test_nothing_handed_in_is_changed(self):
        one, other = face("function f 0 a :", "record a told p num s"), face("function f 0 b :", "record b told p num s")
        before = (one.pieces(), other.pieces())
        told = meet(one, other)
        self.assertEqual((one.pieces(), other.pieces()), before)
        told.pieces().clear()
        self.assertEqual(written(meet(one, other)), written(told))


class Promise(unittest.TestCase):
    """What the third point says of the meet, over many small faces."""

    def faces(self, seed, turns, most=8):
        chance = random.Random(seed)
        for turn in range(turns):
            one = some_face(chance, most)
            yield chance, one, changed_face(chance, one, chance.randrange(1, 5))

    def test_clients_let_by_just_where_both_let_them_by_alike(self):
        told = []
        for chance, one, other in self.faces(21, 250):
            both = meet(one, other)
            for start in [one, other, both]:
                client = some_client(chance, start, 5)
                for end in range(len(client) + 1):
                    told.append(alike(one, other, client[:end]))
                    self.assertIs(lets_by(both, client[:end]), told[-1], (written(one), written(other), client[:end]))
                    if told[-1]:
                        self.assertTrue(alike(one, both, client[:end]) and alike(other, both, client[:end]))
                        self.assert_kinds(one, other, both, client[:end])
        self.assertEqual(set(told), {True, False})

    def assert_kinds(self, one, other, both, client):
        pairs = zip(kinds_of(one, client), kinds_of(other, client))
        self.assertEqual(kinds_of(both, client), [pair_kind(k, l) for k, l in pairs])

    def test_every_small_client(self):
        told = []
        for chance, one, other in self.faces(22, 60, 3):
            both = meet(one, other)
            for start in [one, other, both]:
                for client in all_clients(start, 3):
                    told.append(alike(one, other, client))
                    self.assertIs(lets_by(both, client), told[-1], (written(one), written(other), client))
        self.assertEqual(set(told), {True, False})

    def test_both_may_stand_in_for_it(self):
        for chance, one, other in self.faces(23, 250):
            both = meet(one, other)
            self.assertTrue(may_stand_in(both, one) and may_stand_in(both, other), (written(one), written(other)))

    def test_it_may_stand_in_for_what_both_may_stand_in_for(self):
        told = []
        for chance, one, other in self.faces(24, 250):
            both = meet(one, other)
            for third in [BARE, one, other, changed_face(chance, both, 1), changed_face(chance, one, 1)]:
                told.append(may_stand_in(third, one) and may_stand_in(third, other))
                self.assertIs(may_stand_in(third, both), told[-1], (written(one), written(other), written(third)))
        self.assertEqual(set(told), {True, False})

    def test_what_may_stand_in_may_stand_in_for_the_meet_too(self):
        # where the newer may stand in for the elder, their meet allows what the elder does
        told = []
        for chance, elder, newer in self.faces(25, 250):
            both = meet(elder, newer)
            told.append(may_stand_in(elder, newer))
            self.assertIs(may_stand_in(elder, both), told[-1], (written(elder), written(newer)))
        self.assertEqual(set(told), {True, False})

    def test_the_meet_of_a_face_with_itself(self):
        for chance, one, other in self.faces(26, 100):
            both = meet(one, one)
            self.assertTrue(may_stand_in(one, both) and may_stand_in(both, one), written(one))


if __name__ == "__main__":
    unittest.main()
