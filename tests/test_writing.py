"""Point 6, how a thing is written and read back."""

import unittest

from papervault.errors import NoThing
from papervault.things import thing_in, written
from tests.helper import nested, things

PAIRS = [
    (None, "o"),
    (0, "n0;"), (7, "n7;"), (-7, "n-7;"), (10, "n10;"), (-100, "n-100;"),
    (10 ** 30, "n1" + "0" * 30 + ";"), (-10 ** 30, "n-1" + "0" * 30 + ";"), (10 ** 30 - 1, "n" + "9" * 30 + ";"),
    ("", "t0:"), ("a", "t1:a"), (":", "t1::"), ("3:abc", "t5:3:abc"), (" ~", "t2: ~"), (")(", "t2:)("),
    ("a" * 9, "t9:aaaaaaaaa"), ("a" * 10, "t10:aaaaaaaaaa"), ("o" * 60, "t60:" + "o" * 60),
    ((), "()"), ((None,), "(o)"), (((),), "(())"), (((), ()), "(()())"), ((1, "1", (1,)), "(n1;t1:1(n1;))"),
    ((None,) * 40, "(" + "o" * 40 + ")"), (nested(5), "((((()))))"), (nested(5, ("a", -1)), "(((((t1:an-1;)))))"),
    ((1, (2, (3, (4, (5,))))), "(n1;(n2;(n3;(n4;(n5;)))))"),
]

# Texts that are none of a thing, each for its own cause.
NONE = [
    "", " ", "x", "O", "N1;", "None", "True", "1", ";", ":", ")", "-1", "\n", "%",
    "n", "n;", "n-", "n-;", "n1", "n-1", "n12", "n1:", "n1 ;", "n 1;", "n1;;", "n+1;", "n--1;", "n1-;", "n1_0;",
    "n1.0;", "n0x1;", "na;", "n01;", "n00;", "n-01;", "n-0;", "n-00;", "n0", "n-0", "n0" + "0" * 30 + ";",
    "n1" + "0" * 29 + "1;", "n1" + "0" * 31 + ";", "n1" + "0" * 29 + "1",
    "n1" + "0" * 28 + "01;", "n1" + "0" * 29 + "01;", "n-1" + "0" * 29 + "1;", "n-1" + "0" * 29 + "01;",
    "n2" + "0" * 30 + ";", "n" + "9" * 5000 + ";", "n" + "1" * 9000, "n\u0664;", "n\u00b2;", "n1\n;", "n1;\n",
    "t", "t:", "t0", "t1", "t1:", "t2:a", "t1:ab", "t0:a", "ta", "ta:", "t-0:", "t-1:", "t-1:a", "t+1:a", "t 1:a",
    "t1 :a", "t1;a", "t01:a", "t00:", "t001:a", "t060:" + "a" * 60, "t61:" + "a" * 61, "t60:" + "a" * 59,
    "t60:" + "a" * 61, "t1:%", "t3:a%b", "t1:\n", "t3:a\nb", "t1:\t", "t1:\x7f", "t1:\u00e4", "t\u0661:a", "t\u00b9:a",
    "t9999:" + "a" * 9990, "t" + "9" * 31 + ":a", "t" + "9" * 9000 + ":", "t100:" + "a" * 100,
    "(", "((", "())", ")(", "(o", "(o))", "(()", "(n1)", "(n1", "(t1:a", "(t2:a)", "(t1:)", "( )", "(o o)", "(o,o)",
    "(o;)", "(x)", "(n-0;)", "(n01;)", "(t01:a)", "(t1:%)", "(t61:" + "a" * 61 + ")", "(n1" + "0" * 29 + "1;)",
    "(" + "o" * 41 + ")", "(" + "o" * 41, "(" + "o" * 40, "((" + "o" * 41 + "))", "((((((" + "))))))", "((((((o))))))",
    "(o((((()))))o)", "(((((((", "(" * 9999, "(" * 5000 + ")" * 5000,
    "oo", "oo o", "o ", " o", "o\n", "\no", "on1;", "n1;o", "n1;n2;", "t1:ao", "()()", "()o", "() ", "o)", "t0:t0:",
]


class Writing(unittest.TestCase):

    def same(self, one, other):
        """Like, and of the same kinds all through."""
        self.assertEqual(one, other)
        self.assertIs(one.__class__, other.__class__)
        if isinstance(one, tuple):
            for mine, its in zip(one, other):
                self.same(mine, its)

    def test_written(self):
        for thing, text in PAIRS:
            self.assertEqual(written(thing), text)

    def test_read(self):
        for thing, text in PAIRS:
            self.same(thing_in(text), thing)

    def test_written_and_read_back(self):
        for thing in things():
            self.same(thing_in(written(thing)), thing)

    def test_unlike_things_have_unlike_texts(self):
        texts = [written(thing) for thing in things()]
        self.assertEqual(len(set(texts)), len(texts))

    def test_somewhat_beyond_the_bounds_is_written_but_not_read(self):
        for thing, text in [(10 ** 30 + 1, "n1" + "0" * 29 + "1;"), ("a" * 61, "t61:" + "a" * 61),
                            ((None,) * 41, "(" + "o" * 41 + ")"), (nested(6), "(((((())))))")]:
            self.assertEqual(written(thing), text)
            self.refused(text)

    def refused(self, text):
        with self.assertRaises(NoThing, msg=repr(text)[:80]):
            thing_in(text)

    def test_refused(self):
        for text in NONE:
            self.refused(text)

    def test_every_text_cut_short_is_refused(self):
        for thing in things():
            text = written(thing)
            for length in range(min(len(text), 300)):
                self.refused(text[:length])

    def test_every_text_with_something_behind_is_refused(self):
        for thing in things():
            for more in ("o", ")", " ", "\n", ";", "0", "("):
                self.refused(written(thing) + more)

    def test_a_text_with_one_sign_changed_is_refused_or_another_things(self):
        for thing in things()[:-1]:
            text = written(thing)
            for place in range(len(text)):
                for sign in "on t0159-;:()%\n":
                    changed = text[:place] + sign + text[place + 1:]
                    try:
                        read = thing_in(changed)
                    except NoThing:
                        continue
                    self.assertEqual(written(read), changed)


if __name__ == "__main__":
    unittest.main()
