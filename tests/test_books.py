import random
import unittest

from facestead.books import Book
from facestead.errors import FaceError, NoClient, NoFace, NoMake, NoText
from facestead.faces import Face
from facestead.judges import may_stand_in
from facestead.looks import bound, lets_by
from facestead.texts import written
from small import alike, changed_face, face, some_face, used

NONE = Face([])
F = face("function f 0 num :")
FG = face("function f 0 num :", "function g 0 num :")
FG_AGAIN = face("function g 0 num :", "function f 0 num :", "record out told")
H = face("function h 0 num :")
ALL = [NONE, F, FG, FG_AGAIN, H]


def book_of(*faces):
    book = Book()
    for each in faces:
        book.put_in(each)
    return book


class PutIn(unittest.TestCase):
    def test_numbers_from_0_in_order(self):
        book = Book()
        self.assertEqual([book.put_in(each) for each in ALL], [0, 1, 2, 3, 4])

    def test_one_face_twice(self):
        book = Book()
        self.assertEqual([book.put_in(F), book.put_in(F)], [0, 1])
        self.assertEqual(book.step(0, 1), "nothing")

    def test_two_books(self):
        one, other = Book(), Book()
        self.assertEqual([one.put_in(F), one.put_in(FG), other.put_in(H)], [0, 1, 0])
        self.assertEqual(one.stand_ins(0), [0, 1])
        self.assertEqual(other.stand_ins(0), [0])


class Step(unittest.TestCase):
    def test_each_word(self):
        words = [["nothing", "more", "more", "more", "more"],
                 ["less", "nothing", "more", "more", "other"],
                 ["less", "less", "nothing", "nothing", "other"],
                 ["less", "less", "nothing", "nothing", "other"],
                 ["less", "other", "other", "other", "nothing"]]
        book = book_of(*ALL)
        for i in range(len(ALL)):
            for j in range(len(ALL)):
                self.assertEqual(book.step(i, j), words[i][j], (i, j))

    def test_two_that_are_told_otherwise_and_allow_the_same(self):
        book = book_of(face("function f 0 a :"), face("function f 0 b :", "choice c told shut p num"))
        self.assertEqual([book.step(0, 1), book.step(1, 0)], ["nothing", "nothing"])

    def test_as_may_stand_in_says(self):
        chance = random.Random(26)
        words = {(True, True): "nothing", (True, False): "more", (False, True): "less", (False, False): "other"}
        told = []
        for turn in range(150):
            one = some_face(chance)
            other = changed_face(chance, one, chance.randrange(4))
            told.append(book_of(one, other).step(0, 1))
            self.assertEqual(told[-1], words[may_stand_in(one, other), may_stand_in(other, one)])
        self.assertEqual(set(told), set(words.values()))


class StandIns(unittest.TestCase):
    def test_rising_with_the_make_itself(self):
        book = book_of(*ALL)
        told = [book.stand_ins(i) for i in range(len(ALL))]
        self.assertEqual(told, [[0, 1, 2, 3, 4], [1, 2, 3], [2, 3], [2, 3], [4]])

    def test_makes_ahead_and_behind(self):
        book = book_of(FG, F, H, FG)
        self.assertEqual([book.stand_ins(i) for i in range(4)], [[0, 3], [0, 1, 3], [2], [0, 3]])

    def test_makes_that_are_put_in_later(self):
        book = book_of(F)
        self.assertEqual(book.stand_ins(0), [0])
        book.put_in(H)
        self.assertEqual(book.stand_ins(0), [0])
        book.put_in(FG)
        self.assertEqual(book.stand_ins(0), [0, 2])

    def test_told_lists_are_the_askers_own(self):
        book = book_of(F, FG)
        told = book.stand_ins(0)
        told.append(7)
        told.pop(0)
        self.assertEqual(book.stand_ins(0), [0, 1])


class Shown(unittest.TestCase):
    def assert_shows(self, elder, newer, client):
        self.assertIsInstance(client, list)
        self.assertTrue(lets_by(elder, client))
        self.assertTrue(alike(elder, newer, client[:-1]))
        self.assertFalse(alike(elder, newer, client))
        if lets_by(newer, client):
            self.assertNotEqual(bound(elder, client[-1]), bound(newer, client[-1]))
        things = {thing for row in client for thing in used(row)}
        self.assertEqual(things, set(range(len(client) - 1)))

    def test_a_client_or_none(self):
        book = book_of(*ALL)
        for i, elder in enumerate(ALL):
            for j, newer in enumerate(ALL):
                client = book.shown(i, j)
                if j in book.stand_ins(i):
                    self.assertIs(client, None)
                else:
                    self.assert_shows(elder, newer, client)

    def test_why_the_second_may_not_stand_in_for_the_first(self):
        book = book_of(F, FG)
        self.assertIs(book.shown(0, 1), None)
        self.assertEqual(book.shown(1, 0), [("call", "g", (), (), ())])

    def test_over_many_small_faces(self):
        chance = random.Random(27)
        told = []
        for turn in range(150):
            elder = some_face(chance)
            newer = changed_face(chance, elder, chance.randrange(3))
            client = book_of(elder, newer).shown(0, 1)
            told.append(client is None)
            self.assertIs(told[-1], may_stand_in(elder, newer))
            if client is not None:
                self.assert_shows(elder, newer, client)
        self.assertEqual(set(told), {True, False})

    def test_told_lists_are_the_askers_own(self):
        book = book_of(FG, F)
        kept = list(book.shown(0, 1))
        book.shown(0, 1).clear()
        self.assertEqual(book.shown(0, 1), kept)


class NoMakes(unittest.TestCase):
    def refused(self, at, ask, *numbers):
        with self.assertRaises(NoMake) as caught:
            ask(*numbers)
        self.assertEqual(caught.exception.at, at)
        self.assertIsInstance(caught.exception, FaceError)
        self.assertNotIsInstance(caught.exception, (NoFace, NoText, NoClient))

    def test_numbers_of_no_make(self):
        book = book_of(F, FG)
        for number in [2, 3, 100, -1, -2, -3]:
            self.refused(number, book.stand_ins, number)
            for ask in [book.step, book.shown]:
                self.refused(number, ask, number, 0)
                self.refused(number, ask, 1, number)
                self.refused(number, ask, number, number)

    def test_of_two_the_first(self):
        book = book_of(F, FG)
        for ask in [book.step, book.shown]:
            for first, second in [(2, 3), (3, 2), (-1, 2), (2, -1), (-1, -2), (-2, -1)]:
                self.refused(first, ask, first, second)

    def test_a_book_without_makes(self):
        book = Book()
        self.refused(0, book.stand_ins, 0)
        self.refused(0, book.step, 0, 1)
        self.refused(1, book.shown, 1, 0)

    def test_a_refusal_changes_nothing(self):
        book = book_of(F)
        self.refused(1, book.step, 0, 1)
        self.assertEqual(book.put_in(FG), 1)
        self.assertEqual(book.step(0, 1), "more")


class Along(unittest.TestCase):
    """Steps between neighbours, and the step from the first one to the last one of them."""

    def test_along_a_book(self):
        chance = random.Random(28)
        told = []
        for turn in range(120):
            faces = [some_face(chance, 6)]
            for later in range(4):
                faces.append(changed_face(chance, faces[-1], chance.randrange(2)))
            book = book_of(*faces)
            for i in range(len(faces)):
                for j in range(i + 1, len(faces)):
                    steps = [book.step(k, k + 1) for k in range(i, j)]
                    if "less" in steps or "other" in steps:
                        continue
                    whole = "more" if "more" in steps else "nothing"
                    self.assertEqual(book.step(i, j), whole, [written(each) for each in faces[i:j + 1]])
                    told.append((len(steps) > 1, whole))
        self.assertEqual(set(told), {(True, "more"), (True, "nothing"), (False, "more"), (False, "nothing")})

    def test_one_after_another(self):
        book = book_of(NONE, F, FG, FG_AGAIN)
        self.assertEqual([book.step(k, k + 1) for k in range(3)], ["more", "more", "nothing"])
        self.assertEqual([book.step(0, 3), book.step(1, 3), book.step(2, 3)], ["more", "more", "nothing"])


class Untouched(unittest.TestCase):
    def test_faces_are_not_changed(self):
        kept = [written(each) for each in ALL]
        book = book_of(*ALL)
        for i in range(len(ALL)):
            book.stand_ins(i)
            book.step(i, 0)
            book.shown(0, i)
        self.assertEqual([written(each) for each in ALL], kept)

    def test_pieces_that_are_changed_behind_change_nothing(self):
        pieces = FG.pieces()
        made = Face(pieces)
        book = book_of(F, made)
        pieces.clear()
        made.pieces().clear()
        self.assertEqual(book.step(0, 1), "more")


if __name__ == "__main__":
    unittest.main()
