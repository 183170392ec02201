"""A book of makes: faces, and how one make steps to another."""

from facestead.errors import NoMake
from facestead.judges import judge, may_stand_in

# By whether the second may stand in for the first, and the first for the second.
STEPS = {(True, True): "nothing", (True, False): "more", (False, True): "less", (False, False): "other"}


class Book:
    def __init__(self):
        self.kept = []

    def put_in(self, face):
        self.kept.append(face)
        return len(self.kept) - 1

    def make_at(self, number):
        if not 0 <= number < len(self.kept):
            raise NoMake(number)
        return self.kept[number]

    def step(self, i, j):
        first = self.make_at(i)
        second = self.make_at(j)
        return STEPS[(may_stand_in(first, second), may_stand_in(second, first))]

    def stand_ins(self, i):
        elder = self.make_at(i)
        return [at for at, newer in enumerate(self.kept) if may_stand_in(elder, newer)]

    def shown(self, i, j):
        elder = self.make_at(i)
        answer = judge(elder, self.make_at(j))
        return None if answer[0] == "may" else answer[1]
