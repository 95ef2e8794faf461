"""The places of a builder, and builders with more guards (34, and the interface)."""

import random
import unittest

import chances
from made import BARE, LARGE, SHAPES, built, error_of, made

TEXT = """def f ( p ) : id = p
c = f ( me )
if c :
  guard c |= id = 3
  for e in xs :
    c &= owner != e
    skip
else :
  refuse
take c"""


class Places(unittest.TestCase):
    def test_places(self):
        for text, places in (
            (TEXT, [1, 5, 9]), ("take every", [0]), ("guard take every", []), ("refuse\nguard c = c\nc = c\ntake c", [2, 3]),
            ("c = c\nc |= c\nc &= c\nguard take c", [0, 1, 2]), ("if me :\n  c = c\nelse :\n  d = d\nguard take c", [1, 3]),
        ):
            builder = built(text)
            places_there = builder.places()
            self.assertIs(type(places_there), list)
            self.assertEqual(places_there, places)
            places_there.append(99)
            self.assertEqual(builder.places(), places)


class Guarded(unittest.TestCase):
    def test_guarded(self):
        builder = built(TEXT)
        for lines, changed in (
            ([], {}), ([9], {9: "guard take c"}), ((1,), {1: "guard c = f ( me )"}), ([3], {}), ((3, 3), {}),
            ([9, 1, 9, 3, 1], {1: "guard c = f ( me )", 9: "guard take c"}), ([5], {5: "    guard c &= owner != e"}),
            ((5, 9, 1), {1: "guard c = f ( me )", 5: "    guard c &= owner != e", 9: "guard take c"}),
        ):
            texts = TEXT.split("\n")
            for line, text in changed.items():
                texts[line] = text
            guarded = builder.guarded(lines)
            self.assertEqual(str(guarded), "\n".join(texts))
            self.assertEqual(guarded, built("\n".join(texts)))
            self.assertEqual(guarded.form, builder.form)
            self.assertEqual(guarded == builder, not changed)
            self.assertEqual(guarded.places(), [line for line in builder.places() if line not in changed])
            self.assertEqual(len(guarded), 10)
        self.assertEqual(str(builder), TEXT)
        self.assertEqual(builder.places(), [1, 5, 9])
        self.assertIsNot(builder.guarded([]), builder)

    def test_bad_places(self):
        builder = built(TEXT)
        for lines, line in (([0], 0), ([2], 2), ([4], 4), ([6], 6), ([7], 7), ([8], 8), ([10], 10), ([-1], -1), ([-9], -9),
                            ([1, 4, 2], 4), ((9, 3, 100, 0), 100), ([5, 5, 0, -1], 0), ([10 ** 100], 10 ** 100)):
            self.assertEqual(error_of(builder.guarded, lines), ("BadPlace", line), lines)
            self.assertEqual(error_of(builder.guarded, lines=lines), ("BadPlace", line), lines)
        self.assertEqual(str(builder), TEXT)

    def test_arguments_stay(self):
        lines = [9, 9, 1]
        built(TEXT).guarded(lines)
        self.assertEqual(lines, [9, 9, 1])

    def test_long_text(self):
        lines = [f"c = id = {'9' * 30} | owner = {'8' * 30} | id = {'7' * 30}{' ' * 3}" for _ in range(19)]
        text = "\n".join([*lines, "take c".ljust(1000)])
        builder = built(text, BARE)
        guarded = builder.guarded(builder.places())
        self.assertEqual(guarded.places(), [])
        self.assertEqual(str(guarded), "\n".join("guard " + line for line in str(builder).split("\n")))

    def test_what_guards_do(self):
        builder = built("c |= owner = me\ntake ~ c")
        for lines, taken in (([], True), ([0], True), ([1], False), ([0, 1], True)):
            self.assertIs(builder.guarded(lines).takes((3, 3), {}), taken, lines)
            self.assertIs(builder.guarded(lines).takes((3, 3), {"me": 3}), False)
            self.assertIs(builder.guarded(lines).takes((3, 3), {"me": 4}), True)

    def test_as_it_happens(self):
        chance = random.Random(34)
        many = 0
        for _ in range(300):
            shape = chance.choice(SHAPES)
            plain = chances.some_builder(chance, shape, [0, 3])
            if error_of(made, plain) is None:
                builder = made(plain)
                lines = plain.text.split("\n")
                places = [at for at, line in enumerate(lines)
                          if line.split()[0] == "take" or line.split()[1:2] in (["="], ["|="], ["&="])]
                self.assertEqual(builder.places(), places)
                chosen = [line for line in places if chance.random() < 0.5]
                chance.shuffle(chosen)
                for line in chosen:
                    words = lines[line].lstrip()
                    lines[line] = " " * (len(lines[line]) - len(words)) + "guard " + words
                self.assertEqual(str(builder.guarded(chosen)), "\n".join(lines))
                many += len(chosen)
        self.assertGreater(many, 200)


class Equality(unittest.TestCase):
    def test_guards_count(self):
        self.assertNotEqual(built("guard take c"), built("take c"))
        self.assertEqual(built("guard   take c"), built("take c").guarded([0]))
        self.assertNotEqual(built("take every", LARGE), built("take every", BARE))


if __name__ == "__main__":
    unittest.main()
