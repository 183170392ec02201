"""The promise over the whole program, tried over many small faces."""

import random
import unittest

from facestead.books import Book
from facestead.judges import may_stand_in
from facestead.leans import leans
from facestead.looks import kinds_of
from facestead.meets import meet
from facestead.runs import fits, run
from facestead.texts import written
from small import alike, changed_face, some_client, some_face


class NoValue(Exception):
    """Nothing fits a kind, so no body keeps the face."""


def some_value(chance, depth=0):
    if depth > 2 or chance.random() < 0.5:
        return chance.choice([0, -7, "", "p"])
    if chance.random() < 0.5:
        return ("form", chance.choice("pqrs"), some_value(chance, depth + 1))
    names = sorted(chance.sample("pqrs", chance.randrange(4)))
    return ("rec", tuple([(name, some_value(chance, depth + 1)) for name in names]))


def fitting_value(chance, face, title, depth=0):
    """A value that fits the kind; NoValue where none is found."""
    kind = face.kind(title)
    if depth > 12:
        raise NoValue()
    if title == "num":
        return chance.randrange(-9, 9)
    if title == "word":
        return chance.choice(["", "p", "rec"])
    if kind.word() == "bare":
        return some_value(chance)
    if kind.word() == "record":
        fields = [(name,) + kind.field(name) for name in kind.fields()]
        given = [(name, fitting_value(chance, face, told, depth + 1)) for name, told, due, sure in fields
                 if sure or depth < 3 and chance.random() < 0.3]
        return ("rec", tuple(given))
    forms = kind.forms()
    if not kind.shut():
        forms.append("zz")
    chance.shuffle(forms)
    for form in forms:
        try:
            carried = kind.carried(form)
            return ("form", form, some_value(chance) if carried is None else
                    fitting_value(chance, face, carried, depth + 1))
        except NoValue:
            continue
    raise NoValue()


class NeverStick(unittest.TestCase):
    def keeping_body(self, chance, face, piece):
        def body(handed):
            for name, kind, due in piece[3]:
                self.assertTrue(name in handed or not due)
                self.assertTrue(name not in handed or fits(face, kind, handed[name]))
            if piece[5] and chance.random() < 0.3:
                return ("fault", chance.choice(piece[5]))
            value = fitting_value(chance, face, piece[4])
            self.assertTrue(fits(face, piece[4], value))
            return ("value", value)
        return body

    def test_clients_that_are_let_by_never_stick(self):
        chance = random.Random(3)
        ends = []
        for turn in range(400):
            face = some_face(chance)
            client = some_client(chance, face, chance.randrange(1, 9))
            bodies = {piece[1]: self.keeping_body(chance, face, piece) for piece in face.pieces()
                      if piece[0] == "function"}
            try:
                outcome = run(face, client, bodies)
            except NoValue:
                continue
            ends.append(outcome[0])
            self.assertNotEqual(outcome[0], "stuck", (written(face), client))
            if outcome[0] == "answer":
                self.assertTrue(fits(face, kinds_of(face, client)[-1], outcome[1]))
            else:
                row = client[outcome[2]]
                self.assertIn(outcome[1], face.function(row[1])[5])
                self.assertNotIn(outcome[1], dict(row[4]))
        self.assertGreater(ends.count("answer"), 200)
        self.assertGreater(ends.count("fault"), 5)


class RunAlike(unittest.TestCase):
    def body(self, name):
        """Answers like calls alike, whatever face they are bound by."""
        def body(handed):
            chance = random.Random(repr((name, sorted(handed.items(), key=repr))))
            if chance.random() < 0.2:
                return ("fault", chance.choice("uv"))
            return ("value", some_value(chance))
        return body

    def test_clients_run_alike_over_both_faces(self):
        chance = random.Random(4)
        bodies = {name: self.body(name) for name in "fghi"}
        ends = []
        for turn in range(400):
            elder = some_face(chance)
            newer = changed_face(chance, elder, chance.randrange(1, 3))
            if may_stand_in(elder, newer):
                client = some_client(chance, elder, chance.randrange(1, 8))
                self.assertTrue(alike(elder, newer, client))
                outcome = run(elder, client, bodies)
                self.assertEqual(run(newer, client, bodies), outcome, (written(elder), written(newer), client))
                ends.append(outcome[0])
        self.assertEqual(set(ends), {"answer", "fault", "stuck"})
        self.assertGreater(len(ends), 100)


class OnAndOn(unittest.TestCase):
    def test_from_face_to_face(self):
        chance = random.Random(6)
        told = []
        for turn in range(400):
            first = some_face(chance)
            second = changed_face(chance, first, 1)
            third = changed_face(chance, second, 1)
            if may_stand_in(first, second) and may_stand_in(second, third):
                self.assertTrue(may_stand_in(first, third), [written(each) for each in (first, second, third)])
                told.append(may_stand_in(third, first))
        self.assertEqual(set(told), {True, False})

    def test_each_part_with_the_others(self):
        chance = random.Random(7)
        for turn in range(100):
            one = some_face(chance)
            other = changed_face(chance, one, 2)
            both = meet(one, other)
            client = some_client(chance, both, 4)
            book = Book()
            for made in [leans(both, client), both, one, other]:
                book.put_in(made)
            self.assertIn(book.step(0, 1), ["nothing", "more"])
            self.assertIn(book.step(1, 2), ["nothing", "more"])
            self.assertIn(book.step(1, 3), ["nothing", "more"])
            self.assertEqual(book.stand_ins(0), [0, 1, 2, 3])
            # by whatever face, the client leans on the same
            self.assertEqual(written(leans(one, client)), written(leans(both, client)))
            self.assertEqual(written(leans(other, client)), written(leans(both, client)))


if __name__ == "__main__":
    unittest.main()
