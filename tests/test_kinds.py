import itertools
import re
import unittest

from facestead.kinds import Bare, Choice, Kind, Record, is_kind, is_name

TWELVE = "abcdefghijkl"
THIRTEEN = "abcdefghijklm"


def kinds_of_length(most, names, numbers):
    # every kind of at most so many signs, built up from the forms of point 4
    found = set(names) | set(numbers)
    size = 0
    while len(found) > size:
        size = len(found)
        pointed = {kind + "." + name for kind in found for name in names if len(kind + name) < most}
        paired = {"(" + k + "&" + l + ")" for k in found for l in found if len(k + l) + 3 <= most}
        found = found | pointed | paired
    return found


def told_by_the_forms(text):
    # point 4, form by form
    if re.fullmatch("[a-z]{1,12}|#[0-9]+", text):
        return True
    head, point, name = text.rpartition(".")
    if point and re.fullmatch("[a-z]{1,12}", name) and told_by_the_forms(head):
        return True
    inner = text[1:-1]
    return text[:1] == "(" and text[-1:] == ")" and any(
        told_by_the_forms(inner[:at]) and told_by_the_forms(inner[at + 1:])
        for at in range(len(inner)) if inner[at] == "&")


class Names(unittest.TestCase):
    def test_lengths(self):
        self.assertIs(is_name(""), False)
        self.assertIs(is_name("a"), True)
        self.assertIs(is_name("z"), True)
        self.assertIs(is_name(TWELVE), True)
        self.assertIs(is_name(THIRTEEN), False)
        self.assertIs(is_name("a" * 400), False)

    def test_every_small_letter_and_no_other_sign(self):
        small = "abcdefghijklmnopqrstuvwxyz"
        for sign in [chr(number) for number in range(ord(" "), ord("~") + 1)] + ["\n"]:
            for text in [sign, sign + "bc", "a" + sign + "c", "ab" + sign]:
                self.assertIs(is_name(text), sign in small, repr(text))

    def test_a_wrong_sign_in_a_name_of_full_length(self):
        for sign in "A3 .\n":
            for at in [0, 5, 11]:
                text = TWELVE[:at] + sign + TWELVE[at + 1:]
                self.assertIs(is_name(text), False, repr(text))

    def test_a_wrong_sign_behind_a_name_of_full_length(self):
        for sign in "A3 .\n":
            self.assertIs(is_name(TWELVE + sign), False)

    def test_made_up_kinds_are_no_names(self):
        for text in ["#0", "a.b", "(a&b)"]:
            self.assertIs(is_name(text), False)

    def test_num_and_word_are_names(self):
        self.assertIs(is_name("num"), True)
        self.assertIs(is_name("word"), True)


class KindTexts(unittest.TestCase):
    def check(self, texts, answer):
        for text in texts:
            self.assertIs(is_kind(text), answer, repr(text))

    def test_each_form(self):
        self.check(["num", "word", "a", TWELVE, "#0", "#3", "#00", "#0123456789", "a.b", "#3.ok", "(a&b)"], True)

    def test_forms_within_one_another(self):
        self.check(["num.ok", "word.a.b.c", "#3.ok.no", "(num&word)", "(#1&#2)", "(a.b&#3.ok)", "(a&b).c",
                    "(a&b).c.d.e", "(a&(b&#07)).c", "((a&b)&c)", "((a&b).x&(c&d).y).z", "(((a&b)&c)&d)",
                    "((a.b&c).d&(#1.e&(f&g)).h).i.j", "(a&a)", "a." + TWELVE, "(%s&%s)" % (TWELVE, TWELVE)], True)

    def test_no_sign_and_single_signs(self):
        self.check(["", "#", ".", "(", ")", "&", "()", "(&)", " ", "\n", "A", "3", "-"], False)

    def test_numbers(self):
        self.check(["#a", "#-1", "#3a", "a3", "3#", "##3", "#3#4", "# 3", "#3.", "#.a", "a#3", "#3 "], False)

    def test_a_point_without_a_name_behind(self):
        self.check(["a.", "a..b", ".a", "a.b.", "a.#3", "a.(b&c)", "a.B", "a.3", "#3.", "(a&b).", "(a.&b)",
                    "(a&b.)", "(a&b).(c&d)", "a. b", "a .b"], False)

    def test_a_name_of_thirteen_letters_anywhere(self):
        forms = ["%s", "%s.a", "a.%s", "a.%s.b", "#3.%s", "(%s&b)", "(a&%s)", "(a&b).%s", "((a&b)&%s.c)",
                 "(a&(b.%s&c))", "(a&(%s&c)).d"]
        self.check([form % TWELVE for form in forms], True)
        self.check([form % THIRTEEN for form in forms], False)

    def test_brackets_that_lack_something(self):
        self.check(["(a", "(a)", "(a&", "(a&)", "(a&b", "(&b)", "a&b", "a&b)", "((a&b)", "((a&b))", "((a&b)&)",
                    "(a&(b&c)", "(a&(b))", "((a)&b)", "(ab)", "(a.b)", "(a&b&c)", "(a&b)&c", "(a)&(b)", "(a&(b&c",
                    "((a&b&c)", "(a)b)", ")a&b("], False)

    def test_signs_left_over(self):
        kinds = ["a", "num", "#3", "a.b", "(a&b)", "(a&b).c"]
        left = [" ", "\n", ")", "&", "(", "#", "#3", "&b", "(a&b)", "A", "-", " a"]
        self.check([kind + behind for kind in kinds for behind in left], False)
        self.check([ahead + kind for kind in kinds for ahead in [" ", "\n", ")", "&", "(", ".", "A"]], False)
        self.check(["(a&b)c", "(a&b)3", "#3c", "(a &b)", "(a& b)", "( a&b)", "(a&b )"], False)

    def test_long_kinds(self):
        for deep in [99, 120]:
            left = "(" * deep + "a" + "&b)" * deep
            right = "(a&" * deep + "b" + ")" * deep
            pointed = "(" * 57 + "a" + "&b).cd" * 57
            for text in [left, right, pointed, "#" + "7" * (4 * deep), "a" + ".b" * (2 * deep)]:
                self.check([text, text + ".ok", "(%s&%s)" % (text, text)], True)
                self.check([text + ")", "(" + text, text + ".", text + "&a", text + " "], False)
            self.check([left[:-1], left[1:], right[:-1], right[1:], "a" * 400, "(" * 400, "(a&" * 133], False)

    def test_deep_kinds_far_beyond_the_bound(self):
        self.check(["(" * 5000 + "a" + "&b)" * 5000, "(a&" * 5000 + "b" + ")" * 5000], True)

    def test_all_short_texts(self):
        wanted = kinds_of_length(7, ["a" * many for many in range(1, 8)], ["#" + "0" * many for many in range(1, 7)])
        for length in range(8):
            for signs in itertools.product("a0#.(&)", repeat=length):
                text = "".join(signs)
                if is_kind(text) != (text in wanted):
                    self.fail(repr(text))


    def test_each_sign_in_each_place_of_a_kind(self):
        signs = [chr(number) for number in range(ord(" "), ord("~") + 1)] + ["\n", ""]
        for text in ["a", "#3", "#12.ok", "ab.cd", "(a&b)", "(a&b).c", "(a&(b&#07)).c", "((a.b&c)&#1)"]:
            self.assertTrue(told_by_the_forms(text))
            for at in range(len(text) + 1):
                for sign in signs:
                    for other in [text[:at] + sign + text[at:], text[:at] + sign + text[at + 1:]]:
                        self.assertIs(is_kind(other), told_by_the_forms(other), repr(other))


class KindByItself(unittest.TestCase):
    def test_what_it_has_not(self):
        for title in ["num", "thing", "#3.ok"]:
            kind = Kind(title)
            self.assertEqual(kind.title, title)
            self.assertEqual(kind.word(), "kind")
            self.assertIs(kind.makes(), False)
            self.assertIs(kind.field("a"), None)
            self.assertIs(kind.carried("a"), None)
            self.assertEqual([kind.fields(), kind.dues(), kind.forms()], [[], [], []])
            self.assertIs(kind.shut(), False)

    def test_it_is_none_of_the_others(self):
        self.assertFalse(isinstance(Kind("a"), (Bare, Record, Choice)))

    def test_the_others_stand_under_it_and_not_under_one_another(self):
        others = [Bare, Record, Choice]
        for one in others:
            self.assertTrue(issubclass(one, Kind))
            for other in others:
                self.assertEqual(issubclass(one, other), one is other)

    def test_told_lists_are_the_askers_own(self):
        kind = Kind("a")
        for told in [kind.fields, kind.dues, kind.forms]:
            told().append("b")
            self.assertEqual(told(), [])


if __name__ == "__main__":
    unittest.main()
