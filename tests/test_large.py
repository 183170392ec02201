"""Faces, clients and kinds at the bounds that the document names: each is done in seconds."""

import time
import unittest

from facestead.books import Book
from facestead.faces import Face
from facestead.judges import judge, may_stand_in
from facestead.kinds import is_kind
from facestead.leans import leans
from facestead.looks import kinds_of, lets_by
from facestead.meets import meet, pair_kind
from facestead.texts import read_face, written
from small import alike, pairs_of, used

PARTS = ["part" + letter for letter in "abcdefghijklmnopqrst"]
SECONDS = 20


def name(head, number):
    return head + "".join(["abcdefghij"[int(figure)] for figure in "%03d" % number])


def long_kind(number):
    """A made-up text of four hundred signs."""
    ahead = "#%d" % number
    text = ahead + "." + "x" * (1 + (398 - len(ahead)) % 13)
    while len(text) < 400:
        text += ".abcdefghijkl"
    return text[:400]


def deep_kind(number):
    """A made-up text of some four hundred signs, in brackets as deep as they go."""
    text = name("k", number)
    while len(text) < 394:
        text = "(" + text + "&a)"
    return text


class Large(unittest.TestCase):
    def setUp(self):
        self.start = time.process_time()

    def tearDown(self):
        self.assertLess(time.process_time() - self.start, SECONDS)

    def may(self, elder, newer, reached):
        word, client, pairs = judge(elder, newer)
        self.assertEqual(word, "may")
        self.assertEqual(len(pairs), reached)
        self.assertEqual(len(set(pairs)), reached)
        self.assertTrue(alike(elder, newer, client))
        self.assertEqual(pairs_of(elder, newer, client), pairs)

    def no(self, elder, newer):
        word, client, pairs = judge(elder, newer)
        self.assertEqual(word, "not")
        self.assertTrue(lets_by(elder, client))
        self.assertTrue(alike(elder, newer, client[:-1]))
        self.assertFalse(alike(elder, newer, client))
        self.assertEqual(pairs_of(elder, newer, client[:-1]), pairs)
        things = {thing for row in client for thing in used(row)}
        self.assertEqual(things, set(range(len(client) - 1)))
        return client


def ring(count, kind=lambda number: name("k", number), last=None):
    """Records that lead to one another, and a function that leads to the first one."""
    pieces = [("function", "start", 0, (), kind(0), ())]
    for number in range(count):
        into = kind((number + 1) % count)
        fields = [(part, into, False, True) for part in PARTS[:-1]]
        fields.append((PARTS[-1], last if last and number == count - 1 else into, False, True))
        pieces.append(("record", kind(number), False, tuple(fields)))
    return Face(pieces)


def tower(count, last=True):
    """Functions each of which takes the answers of the one below it, by twenty places, and tells twenty faults."""
    pieces = []
    for number in range(count):
        kind = "num" if number == 0 else name("k", number)
        places = tuple([(part, kind, last or number < count - 1) for part in PARTS])
        pieces.append(("function", name("f", number), 20, places, name("k", number + 1), tuple(PARTS)))
    return Face(pieces)


def boxes(count, shut=True):
    """Choices each of which carries the one below it, in twenty forms."""
    pieces = []
    for number in range(count):
        kind = "num" if number == 0 else name("k", number - 1)
        forms = tuple([(part, kind) for part in PARTS])
        pieces.append(("choice", name("k", number), True, shut or number < count - 1, forms))
    return Face(pieces)


class Judges(Large):
    def test_records_in_a_ring(self):
        for kind in [lambda number: name("k", number), long_kind, deep_kind]:
            self.may(ring(98, kind), ring(98, kind), 100)
            client = self.no(ring(98, kind), ring(98, kind, "word"))
            self.assertGreaterEqual(len(client), 99)

    def test_kinds_of_four_hundred_signs(self):
        self.assertTrue(is_kind(long_kind(7)) and is_kind(deep_kind(7)))
        self.assertEqual(len(long_kind(7)), 400)
        self.assertLessEqual(len(deep_kind(7)), 400)
        self.may(ring(98, long_kind), ring(98, deep_kind), 100)
        self.may(ring(98, long_kind), ring(98), 100)

    def test_functions_in_a_tower(self):
        self.may(tower(98), tower(98), 100)
        self.may(tower(98), tower(98, False), 100)
        self.no(tower(98, False), tower(98))
        client = self.no(tower(98), tower(97))
        self.assertEqual(len(client), 99)

    def test_choices_in_one_another(self):
        self.may(boxes(98), boxes(98), 100)
        self.may(boxes(98, False), boxes(98), 100)
        client = self.no(boxes(98), boxes(98, False))
        self.assertEqual(len(client), 100)
        self.no(boxes(98), boxes(97))

    def test_pairs_of_unlike_kinds(self):
        # one kind of the elder, and ninety-eight of the newer that nothing tells apart
        elder = Face([("function", name("f", number), 0, (), "a", ()) for number in range(98)])
        newer = Face([("function", name("f", number), 0, (), name("k", number), ()) for number in range(98)])
        self.may(elder, newer, 100)
        self.may(newer, elder, 100)
        pieces = [("function", "take", 0, (("p", "a", False),), "num", ())]
        self.no(Face(elder.pieces() + pieces), Face(newer.pieces() + pieces))
        pieces = [("function", "look", 0, (), "b", ()), ("choice", "b", False, False, (("p", "num"),))]
        self.no(Face(elder.pieces() + pieces), Face(newer.pieces() + pieces))

    def test_a_book_of_large_makes(self):
        book = Book()
        makes = [tower(count) for count in [96, 97, 98, 98]] + [boxes(98)]
        for make in makes:
            book.put_in(make)
        self.assertEqual(book.stand_ins(1), [1, 2, 3])
        self.assertEqual([book.step(0, 3), book.step(3, 2), book.step(3, 0), book.step(4, 0)],
                         ["more", "nothing", "less", "other"])
        self.assertEqual(len(book.shown(2, 1)), 99)


class Meets(Large):
    def test_with_itself(self):
        for large in [ring(98), tower(98), boxes(98)]:
            self.assertEqual(written(meet(large, large)), written(large))

    def test_rings_that_run_apart(self):
        # each record of the one comes together with each of the other
        both = meet(ring(98), ring(97))
        self.assertEqual(len(both.pieces()), 1 + 98 * 97)
        self.assertEqual(both.function("start")[4], name("k", 0))
        told = both.kind(pair_kind(name("k", 0), name("k", 1)))
        self.assertEqual(told.field(PARTS[0]), (pair_kind(name("k", 1), name("k", 2)), False, True))

    def test_kinds_of_four_hundred_signs(self):
        one, other = ring(98, long_kind), ring(98, deep_kind)
        both = meet(one, other)
        self.assertEqual(len(both.pieces()), 99)
        self.assertTrue(may_stand_in(both, one) and may_stand_in(both, other))
        self.assertEqual(written(read_face(written(both))), written(both))
        both = meet(ring(60, long_kind), ring(59, deep_kind))
        self.assertEqual(len(both.pieces()), 1 + 60 * 59)


class Leans(Large):
    def leaned(self, face, client):
        told = leans(face, client)
        self.assertTrue(alike(face, told, client))
        self.assertTrue(may_stand_in(told, face))
        return told

    def test_a_long_chain(self):
        client = [("call", "start", (), (), ())]
        while len(client) < 300:
            client.append(("get", len(client) - 1, PARTS[len(client) % 20]))
        told = self.leaned(ring(98), client)
        self.assertEqual(len(told.pieces()), 300)

    def test_two_long_chains_that_come_together(self):
        face = Face(ring(1).pieces() + [("function", "other", 0, (), name("k", 0), ()),
                                        ("function", "reply", 0, (), "c", ()),
                                        ("choice", "c", False, False, (("p", "num"),))])
        client = [("call", each, (), (), ()) for each in ["reply", "start", "other"]]
        while len(client) < 299:
            client.append(("get", len(client) - 2, PARTS[0]))
        client.append(("sort", 0, (("p", 1),), 2))
        told = self.leaned(face, client)
        # three functions, a choice, and a record for each two gets
        self.assertEqual(len(told.pieces()), 3 + 1 + 148)

    def test_wide_rows(self):
        face = Face([("record", "k", True, tuple([(part, "k", False, False) for part in PARTS]))])
        client = [("make", "k", ())]
        while len(client) < 300:
            client.append(("make", "k", tuple([(part, len(client) - 1) for part in PARTS])))
        told = self.leaned(face, client)
        self.assertEqual(written(told), written(face))

    def test_a_tower_of_calls(self):
        client = [("num", 0)]
        while len(client) < 99:
            at = len(client) - 1
            client.append(("call", name("f", at), (at,) * 20, (), ()))
        while len(client) < 300:
            client.append(client[1])
        told = self.leaned(tower(98), client)
        self.assertEqual(len(told.pieces()), 98)
        self.assertEqual(kinds_of(told, client)[98], "#98")


if __name__ == "__main__":
    unittest.main()
