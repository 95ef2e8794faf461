"""Builders: which texts there are, which line is wrong, and how much a text may have (13 to 17)."""

import random
import unittest

import chances
from checker import looked_through
from made import BARE, LARGE, LISTS, ONE, OPTIONS, SHAPES, SMALL, WIDE, built, error_of, form_of
from emptyfilters.builders import Builder

RIGHT = (
    "take every",
    "take blank | every & none",
    "take ~ ~ ( id = 3 | ( owner != id ) )",
    "take id = -3 & id < 0 & id <= 0 & id > 0 & id >= 123456789012345678901234567890",
    "take id = id & id != owner",
    "take me = id | id != me | me = 3 | me < 3 & you >= -1",
    "take id in xs & ~ owner in ys",
    "take any e in xs : id = e",
    "take all e in xs : e = id & any e in xs : ( id = e & e < 3 | owner != e )",
    "take any e in xs : all f in ys : ( id = e & owner = f )",
    "take any e in xs : id in ys",
    "take pick ( me , id = me , every )",
    "take pick ( not ( given me and you or me = 3 ) , c , pick ( xs , none , blank ) )",
    "take any e in xs : pick ( e and given e and e != 0 or ys , id = e , owner in ys )",
    "take c",
    "c = every\nd |= c\nk &= d\ntake c | d & ~ k",
    "guard c = every\nguard c |= every\nguard c &= every\nguard take c",
    "if me :\n  c = every\ntake c",
    "if me :\n  c = every\nelse :\n  c = none\ntake c",
    "if not me and ( xs or given you ) or c and me < 3 :\n  refuse\ntake c",
    "if me :\n  if you :\n    refuse\n  else :\n    c = every\nelse :\n  c = none\ntake c",
    "if me :\n  if you :\n    refuse\nelse :\n  c = none\ntake c",
    "if me :\n  refuse\nif you :\n  refuse\nelse :\n  refuse\ntake c",
    "for e in xs :\n  c |= id = e\ntake c",
    "for e in xs :\n  for f in ys :\n    c |= id = e & owner = f\n  c = c\ntake c",
    "for e in xs :\n  if e = 3 :\n    break\n  else :\n    skip\n  c = every\n  break\n  skip\n  refuse\n  c = c\ntake c",
    "for e in xs :\n  for f in ys :\n    break\n  skip\ntake c",
    "refuse\nc = every\nrefuse\ntake c",
    "def f ( p ) : id = p\ntake f ( me )",
    "def f ( p , q , r ) : id = p | owner = q & r != id\ntake f ( me , you , me )",
    "def f ( p ) : id = p\ndef g ( p , q ) : f ( p ) & f ( q ) | f ( me )\ntake any e in xs : g ( e , you )",
    "def f ( p ) : any e in xs : ( id = e & owner = p )\nfor e in ys :\n  c |= f ( e )\ntake c",
    "def f ( p ) : any e in xs : id = p\ndef g ( p ) : all e in ys : id = e\ntake f ( me ) | any e in xs : g ( e )",
    "def f ( p ) : pick ( p = 3 and not given p or p , every , none )\ntake blank",
    "for e in xs :\n  c = c\nfor e in xs :\n  d = d\nfor e in ys :\n  c = c\ntake any e in xs : id = e",
    "for e in xs :\n  skip\nfor f in xs :\n  c = c\nif c or d :\n  d = k\ntake d & any f in xs : id = f",
    "for e in xs :\n  if c :\n    c = c\n  c = c\ntake d",
    "take  id  =  3",
    "take id=3|id<-4&(owner!=me)|~~c",
    "c|=id=me\nc&=c\nc=c\ntake c",
    "take   every   ",
    "for abcdefgh in xs :\n  c = c\ntake c",
    "take you = id",
)

# A text, and the line that is wrong; in the form LARGE.
WRONG_LINES = (
    ("", 0), ("\n", 0), ("   ", 0), ("\ntake every", 0), ("take every\n", 1), ("take every\n\n", 1),
    ("take every\n  ", 1), ("c = every\n\ntake c", 1), ("c = every\n  \ntake c", 1),
    ("c = every", 1), ("if me :", 1), ("for e in xs :\n  c = c", 2), ("def f ( p ) : id = p", 1), ("refuse", 1),
    (" take every", 0), ("  take every", 0), ("c = c\n   take c", 1), ("if me :\n c = c\ntake c", 1),
    ("if me :\n   c = c\ntake c", 1), ("if me :\n    c = c\ntake c", 1), ("if me :\nc = c\ntake c", 1),
    ("if me :\ntake c", 1), ("for e in xs :\ntake c", 1), ("if me :\n  c = c\n    c = c\ntake c", 2),
    ("if me :\n  if you :\n  c = c\ntake c", 2), ("if me :\n  c = c\nelse :\ntake c", 3),
    # else
    ("else :\n  c = c\ntake c", 0), ("c = c\nelse :\n  c = c\ntake c", 1),
    ("if me :\n  c = c\nd = d\nelse :\n  c = c\ntake c", 3), ("if me :\n  c = c\n  else :\n  c = c\ntake c", 2),
    ("if me :\n  c = c\nelse :\n  c = c\nelse :\n  c = c\ntake c", 4), ("if me :\nelse :\n  c = c\ntake c", 1),
    ("for e in xs :\n  c = c\nelse :\n  c = c\ntake c", 2), ("if me :\n  c = c\nelse c :\n  c = c\ntake c", 2),
    ("if me :\n  c = c\nelse\n  c = c\ntake c", 2), ("if me :\n  for e in xs :\n    c = c\n  else :\n    c = c", 3),
    ("for e in xs :\n  if e :\n    c = c\nelse :\n  c = c\ntake c", 3), ("if me :\n  c = c\n else :\ntake c", 2),
    # take
    ("take every\ntake every", 1), ("take every\nc = c", 1), ("if me :\n  take every", 1), ("take", 0),
    ("for e in xs :\n  take c\ntake c", 1), ("guard guard take c", 0), ("guard", 0), ("guard refuse\ntake c", 0),
    ("if me :\n  guard take c\ntake c", 1), ("take every every", 0), ("guard if me :\n  c = c\ntake c", 0),
    ("for e in xs :\n  guard break\ntake c", 1), ("take guard c", 0), ("c = c\ntake ( c", 1), ("take c )", 0),
    # break, skip
    ("break\ntake c", 0), ("skip\ntake c", 0), ("if me :\n  break\ntake c", 1), ("take any e in xs : break", 0),
    ("for e in xs :\n  c = c\nbreak\ntake c", 2), ("for e in xs :\n  skip me\ntake c", 1), ("refuse me\ntake c", 0),
    # def
    ("c = c\ndef f ( p ) : id = p\ntake c", 1), ("if me :\n  def f ( p ) : id = p\ntake c", 1),
    ("refuse\ndef f ( p ) : id = p\ntake c", 1), ("def f ( ) : every\ntake c", 0), ("def f : every\ntake c", 0),
    ("def f ( p , q , r , s ) : every\ntake c", 0), ("def f ( p , p ) : every\ntake c", 0),
    ("def f ( f ) : every\ntake c", 0), ("def id ( p ) : every\ntake c", 0), ("def me ( p ) : every\ntake c", 0),
    ("def xs ( p ) : every\ntake c", 0), ("def f ( id ) : every\ntake c", 0), ("def f ( me ) : every\ntake c", 0),
    ("def f ( p ) : every\ndef f ( q ) : every\ntake c", 1), ("def f ( p ) : every\ndef p ( q ) : every\ntake c", 1),
    ("def f ( p ) : every\ndef g ( f ) : every\ntake c", 1), ("def f ( p ) : c\ntake c", 0),
    ("def f ( p ) : pick ( c , every , none )\ntake c", 0), ("def f ( p ) : f ( p )\ntake c", 0),
    ("def f ( p ) : g ( p )\ndef g ( p ) : id = p\ntake c", 0), ("def f ( p ) : id = q\ntake c", 0),
    ("def f ( p ) : id = p\ndef g ( q ) : id = p\ntake c", 1), ("def f ( p ) : any p in xs : every\ntake c", 0),
    ("def f ( p ) : any e in xs : every\ndef g ( e ) : every\ntake c", 1), ("def f ( p ) every\ntake c", 0),
    ("def f ( p ) : any e in xs : every\ndef e ( p ) : every\ntake c", 1), ("def any ( p ) : every\ntake c", 0),
    ("def f ( p ) :\ntake c", 0), ("def abcdefghi ( p ) : every\ntake c", 0), ("def f ( p q ) : every\ntake c", 0),
    ("def f ( p , ) : every\ntake c", 0), ("def f ( p ) : any e in xs : any e in ys : every\ntake c", 0),
    ("def f ( p ) : any e in xs : any f in ys : every\ntake c", 0), ("def f ( 3 ) : every\ntake c", 0),
    # calls
    ("take f ( me )", 0), ("def f ( p ) : id = p\ntake f", 1), ("def f ( p ) : id = p\ntake f ( )", 1),
    ("def f ( p ) : id = p\ntake f ( me , me )", 1), ("def f ( p , q ) : id = p\ntake f ( me )", 1),
    ("def f ( p ) : id = p\ntake f ( id )", 1), ("def f ( p ) : id = p\ntake f ( 3 )", 1),
    ("def f ( p ) : id = p\ntake f ( p )", 1), ("def f ( p ) : id = p\ntake f ( c )", 1),
    ("def f ( p ) : id = p\ntake f ( e )", 1), ("def f ( p ) : id = p\ntake f ( xs )", 1),
    ("def f ( p ) : id = p\nf = every\ntake c", 1), ("def f ( p ) : id = p\nif f ( me ) :\n  c = c\ntake c", 1),
    ("def f ( p ) : id = p\np = every\ntake c", 1), ("def f ( p ) : id = p\nfor p in xs :\n  c = c\ntake c", 1),
    ("def f ( p ) : id = p\nfor f in xs :\n  c = c\ntake c", 1), ("c = f ( me )\ntake c", 0),
    ("take me ( me )", 0), ("take id ( me )", 0), ("def f ( p ) : id = p\ntake f ( me", 1),
    # assignments
    ("id = every\ntake c", 0), ("me = every\ntake c", 0), ("xs = every\ntake c", 0), ("c\ntake c", 0),
    ("c == every\ntake c", 0), ("c != every\ntake c", 0), ("c =\ntake c", 0), ("= every\ntake c", 0),
    ("3 = every\ntake c", 0), ("true = every\ntake c", 0), ("for = every\ntake c", 0), ("c + = every\ntake c", 0),
    ("c = every\nfor c in xs :\n  c = c\ntake c", 1), ("abcdefghi = every\ntake every", 0), ("c ~= every\ntake c", 0),
    ("for e in xs :\n  c = c\ne = every\ntake c", 2), ("for e in xs :\n  e = every\ntake c", 1),
    ("c = every : \ntake c", 0), ("self = every\ntake c", 0), ("c | = every\ntake c", 0),
    # walks
    ("for e in id :\n  c = c\ntake c", 0), ("for e in me :\n  c = c\ntake c", 0), ("for e in zs :\n  c = c\ntake c", 0),
    ("for e xs :\n  c = c\ntake c", 0), ("for e in xs\n  c = c\ntake c", 0), ("for in xs :\n  c = c\ntake c", 0),
    ("for me in xs :\n  c = c\ntake c", 0), ("for xs in xs :\n  c = c\ntake c", 0), ("for 3 in xs :\n  c = c", 0),
    ("for e in xs : c = c\ntake c", 0), ("for e in xs :\n  for e in ys :\n    c = c\ntake c", 1),
    ("for e in xs :\n  c = any e in ys : id = e\ntake c", 1), ("take any e in xs : any e in ys : id = e", 0),
    ("take any e in xs : id = f", 0), ("take ( any e in xs : id = e ) & id = e", 0), ("take any e in xs id = e", 0),
    ("take any e in xs : id = e & owner = e", 0), ("for e in xs :\n  c = c\ntake id = e", 2),
    ("take any c in xs : c", 0), ("c = every\ntake any e in xs : c", 1), ("take any e in xs : c", 0),
    ("take any e in xs : ( id = e | c )", 0), ("take all e in xs : pick ( c , every , none )", 0),
    ("c = every\ntake any c in xs : id = c", 1), ("take any id in xs : every", 0), ("take any e in xs :", 0),
    ("take any e in : every", 0), ("take any in xs : every", 0), ("take all e of xs : every", 0),
    # asks inside walks
    ("for e in xs :\n  for f in xs :\n    c = c\ntake c", 1), ("for e in xs :\n  c = any f in xs : id = f\ntake c", 1),
    ("for e in xs :\n  c = id in xs\ntake c", 1), ("for e in xs :\n  if xs :\n    c = c\ntake c", 1),
    ("for e in xs :\n  for f in ys :\n    c = id in xs\ntake c", 2), ("take any e in xs : id in xs", 0),
    ("for e in xs :\n  if me :\n    c = pick ( not xs , c , c )\ntake c", 2), ("take all e in xs : any f in xs : every", 0),
    ("take any e in xs : all f in ys : id in xs", 0), ("take any e in xs : pick ( me or xs , every , every )", 0),
    ("def f ( p ) : id in xs\ntake any e in xs : f ( e )", 1), ("def f ( p ) : any e in xs : id in xs\ntake c", 0),
    ("def f ( p ) : id in xs\nfor e in xs :\n  c = f ( e )\ntake c", 2),
    ("def f ( p ) : id in xs\ndef g ( p ) : any e in xs : f ( e )\ntake every", 1),
    ("def f ( p ) : id in xs\ndef g ( p ) : f ( p )\ndef h ( p ) : ~ g ( p )\nfor e in xs :\n  c = h ( me )\ntake c", 4),
    ("def f ( p ) : any f in xs : every\ntake every", 0), ("for e in xs :\n  skip\n  if me or xs :\n    skip\ntake c", 2),
    ("def f ( p ) : pick ( xs , every , none )\ntake all e in xs : f ( e )", 1),
    # the variable of a for
    ("for e in xs :\n  c = c\n  d = every\ntake c", 2), ("for e in xs :\n  c = d\ntake c", 1),
    ("for e in xs :\n  c = every\n  if d :\n    skip\ntake c", 2), ("for e in xs :\n  if c and d :\n    skip\ntake c", 1),
    ("for e in xs :\n  for f in ys :\n    c = c\n  d = d\ntake c", 3),
    ("for e in xs :\n  c = c\n  for f in ys :\n    d = d\ntake c", 3),
    ("for e in xs :\n  if me :\n    c = c\n  else :\n    d = d\ntake c", 4),
    ("for e in xs :\n  c = pick ( d , every , none )\ntake c", 1),
    ("for e in xs :\n  if me :\n    for f in ys :\n      c = c\n  c = c | d\ntake c", 4),
    # questions
    ("if c = 3 :\n  c = c\ntake c", 0), ("if id :\n  c = c\ntake c", 0), ("if id = 3 :\n  c = c\ntake c", 0),
    ("if me = you :\n  c = c\ntake c", 0), ("if me = id :\n  c = c\ntake c", 0), ("if given id :\n  c = c\ntake c", 0),
    ("if given c :\n  c = c\ntake c", 0), ("if given xs :\n  c = c\ntake c", 0), ("if xs = 3 :\n  c = c\ntake c", 0),
    ("if :\n  c = c\ntake c", 0), ("if me & you :\n  c = c\ntake c", 0), ("if ~ me :\n  c = c\ntake c", 0),
    ("if me not :\n  c = c\ntake c", 0), ("if ( me :\n  c = c\ntake c", 0), ("if me\n  c = c\ntake c", 0),
    ("if every :\n  c = c\ntake c", 0), ("if 3 = me :\n  c = c\ntake c", 0), ("if me or :\n  c = c\ntake c", 0),
    ("if me : c = c\ntake c", 0), ("if true :\n  c = c\ntake c", 0), ("if me <> 3 :\n  c = c\ntake c", 0),
    ("if id in xs :\n  c = c\ntake c", 0), ("if e :\n  c = c\nfor e in xs :\n  c = c\ntake c", 2),
    ("for e in xs :\n  c = c\nif e :\n  c = c\ntake c", 2), ("if any e in xs : e :\n  c = c\ntake c", 0),
    # expressions
    ("take id", 0), ("take me", 0), ("take xs", 0), ("take id = ", 0), ("take id < owner", 0), ("take id < me", 0),
    ("take me = you", 0), ("take me = me", 0), ("take 3 = id", 0), ("take id = xs", 0), ("take id = c", 0),
    ("take c = 3", 0), ("take c in xs", 0), ("take me in xs", 0), ("take id in me", 0), ("take id in ids", 0),
    ("take me < id", 0), ("take id == 3", 0), ("take id = 03", 0), ("take id = -0", 0), ("take id = --3", 0),
    ("take id = 1234567890123456789012345678901", 0), ("take id = 3 & & c", 0), ("take id and c", 0),
    ("take not c", 0), ("take c |", 0), ("take | c", 0), ("take ( )", 0), ("take ~", 0), ("take c d", 0),
    ("take pick ( me , c )", 0), ("take pick ( me , c , c , c )", 0), ("take pick me , c , c", 0),
    ("take pick ( id = 3 , c , c )", 0), ("take pick ( c | c , c , c )", 0), ("take true", 0), ("take id = 3;", 0),
    ("take abcdefghi", 0), ("take id = abcdefghi", 0), ("take Id = 3", 0), ("take id = 3 $", 0), ("take c |= d", 0),
    ("take id = 3 # 4", 0), ("take given me", 0), ("take id = - 3", 0), ("take id ! = 3", 0), ("take id 3", 0),
    ("take every\nthis is not looked at", 1), ("c = id\nd = me", 0), ("d = d\nc = id\ntake 3", 1),
)


class Lines(unittest.TestCase):
    def test_right_texts(self):
        for text in RIGHT:
            builder = built(text)
            self.assertEqual(len(builder), text.count("\n") + 1, text)
            self.assertEqual(builder.form, form_of(LARGE))
            self.assertEqual(looked_through(text, LARGE), ("right",), text)

    def test_wrong_lines(self):
        for text, line in WRONG_LINES:
            self.assertEqual(error_of(built, text), ("BadBuilder", line), text)
            self.assertEqual(looked_through(text, LARGE), ("line", line), text)

    def test_no_string(self):
        for thing in (None, 3, True, b"take every", ["take every"], ("take every",), []):
            self.assertEqual(error_of(Builder, thing, form_of(LARGE)), ("BadBuilder", -1))

    def test_words_of_the_form(self):
        for shape, text, line in (
            (BARE, "take me = id", 0), (BARE, "take id in xs", 0), (BARE, "if given me :\n  c = c\ntake c", 0),
            (BARE, "me = every\nxs = me\ntake me & xs", None), (BARE, "for e in xs :\n  c = c\ntake c", 0),
            (OPTIONS, "take any e in xs : every", 0), (LISTS, "take id = me", 0), (LISTS, "take owner = 3", 0),
            (LISTS, "def me ( you ) : id = you\ntake every", None), (ONE, "for ys in xs :\n  c = c\ntake c", None),
            (WIDE, "take a = b & b != z & z = me & z in xs", None), (WIDE, "take id = 3", 0),
        ):
            wanted = None if line is None else ("BadBuilder", line)
            self.assertEqual(error_of(built, text, shape), wanted, text)

    def test_kept_words_are_no_names(self):
        for word in ("def if else for in break skip refuse take guard blank every none any all pick given and or not "
                     "true false self").split():
            for text in (f"{word} = every\ntake c", f"for {word} in xs :\n  c = c\ntake c",
                         f"def {word} ( p ) : every\ntake c", f"def f ( {word} ) : every\ntake c",
                         f"take any {word} in xs : every"):
                self.assertEqual(error_of(built, text), ("BadBuilder", 0), text)

    def test_each_word_has_one_use(self):
        begins = {
            "variable": "c = w", "element": "for w in xs :\n  c = c", "walked": "c = any w in xs : every",
            "function": "def w ( p ) : every", "parameter": "def f ( w ) : every",
            "inner": "def f ( p ) : all w in xs : every",
        }
        uses = {
            "variable": ("w = c", "c = w", "if w :\n  c = c", "c = pick ( w , c , c )"),
            "element": ("for w in xs :\n  c = c", "c = any w in xs : id = w"),
        }
        same = {"variable": "variable", "element": "element", "walked": "element", "inner": "element"}
        for begin, first in begins.items():
            for use, lines in uses.items():
                for line in lines:
                    wanted = None if same.get(begin) == use else ("BadBuilder", first.count("\n") + 1)
                    self.assertEqual(error_of(built, f"{first}\n{line}\ntake every"), wanted, (first, line))
        self.assertIsNone(error_of(built, "def f ( w ) : every\ndef g ( w ) : every\ntake every"))
        for second in ("def w ( p ) : every", "def g ( w ) : every", "def g ( p ) : any w in xs : every"):
            for begin in ("function", "parameter", "inner"):
                right = (begin, second) in (("parameter", "def g ( w ) : every"),
                                            ("inner", "def g ( p ) : any w in xs : every"))
                wanted = None if right else ("BadBuilder", 1)
                self.assertEqual(error_of(built, f"{begins[begin]}\n{second}\ntake every"), wanted, (begin, second))

    def test_beyond_the_sizes(self):
        many = "\n".join(["c = c"] * 40 + ["take c"])
        self.assertEqual(len(built(many)), 41)
        deep = "take " + "~ ( " * 14 + "id = me" + " )" * 14
        self.assertTrue(built(deep).takes((3, 3), {"me": 3}))
        blocks = "".join("  " * depth + "if me :\n" for depth in range(8)) + "  " * 8 + "c = none\ntake c"
        self.assertFalse(built(blocks).takes((3, 3), {"me": 3}))

    def test_as_it_happens(self):
        words = ("id owner me you xs ys e f g c d k p q funa funb if else : for in break skip refuse take guard blank "
                 "every none any all pick given and or not true def ( ) , | & ~ = != < >= |= &= 0 3 -4 00 abcdefghi $")
        chance = random.Random(13)
        found = {}
        for _ in range(6000):
            shape = chance.choice(SHAPES)
            lines = chances.some_builder(chance, shape, [0, 3]).text.split("\n")
            for _ in range(chance.choice([0, 1, 1, 2])):
                at = chance.randrange(len(lines))
                lines[at] = changed(chance, lines[at], words.split())
                if chance.random() < 0.2:
                    lines.insert(at, chance.choice(["", "  ", "else :", "if me :", "  break", "take c", "  c = d"]))
                elif chance.random() < 0.1:
                    del lines[at:at + 1]
                    lines = lines or [""]
            text = "\n".join(lines)
            wanted = looked_through(text, shape)
            error = error_of(built, text, shape)
            self.assertEqual(error, {"line": ("BadBuilder", *wanted[1:]), "right": None}.get(
                wanted[0], ("TooMany", wanted[0])), text)
            found[wanted[0]] = found.get(wanted[0], 0) + 1
        self.assertGreater(found["right"], 500)
        self.assertGreater(found["line"], 2000)


def changed(chance, line, words):
    """A line with another token or other spaces."""
    spaces, tokens = len(line) - len(line.lstrip()), line.split()
    at = chance.randrange(len(tokens) + 1)
    draw = chance.random()
    if draw < 0.4:
        tokens[at:at + 1] = [chance.choice(words)]
    elif draw < 0.6:
        del tokens[at:at + 1]
    elif draw < 0.8:
        tokens.insert(at, chance.choice(words))
    elif draw < 0.9:
        spaces = max(0, spaces + chance.choice([-2, 2, 1]))
    return " " * spaces + " ".join(tokens)


class Bounds(unittest.TestCase):
    def test_parts_of_a_text(self):
        tests = ["id = 3", "me != owner", "id in xs", "c", "every", "blank", "none"]
        for many in (59, 60, 61):
            text = "take " + " | ".join((tests * 9)[:many])
            self.assertEqual(error_of(built, text), None if many <= 60 else ("TooMany", "parts"), many)

    def test_parts_at_every_place(self):
        # Each has twelve parts.
        lines = (
            "c |= any e in xs : ( id = e & owner = e ) | " + " | ".join(["every"] * 10),
            "c |= pick ( me or you and not xs and ( given me or c or me = 3 ) , every , none | blank ) | "
            + " | ".join(["id in ys"] * 3),
            "if " + " or ".join(["not me", "xs", "( c )", "given you", "me < 3", "you"] * 2) + " :\n  refuse",
            "guard c &= ~ ( " + " & ".join(["id != owner", "~ c", "me = id"] * 4) + " )",
        )
        for line in lines:
            rest = " | ".join(["every"] * 12)
            self.assertIsNone(error_of(built, f"{line}\n" * 4 + f"take {rest}"), line)
            self.assertEqual(error_of(built, f"{line}\n" * 4 + f"take {rest} | c"), ("TooMany", "parts"), line)

    def test_what_is_no_part(self):
        text = "if me :\n  " + "\n  ".join(["c = every", "refuse", "d |= every"] * 6) + "\ntake ~ ~ ~ ( ( every ) )"
        self.assertIsNone(error_of(built, text.replace("every", " & ".join(["every"] * 4))))
        walks = " | ".join(["any e in xs : all f in ys : every"] * 60)
        self.assertIsNone(error_of(built, f"take {walks}"))
        self.assertEqual(error_of(built, f"take {walks} | c"), ("TooMany", "parts"))

    def test_parts_of_calls(self):
        ten = " | ".join(["id = p"] * 10)
        functions = f"def f ( p ) : {ten}\ndef g ( p ) : f ( p ) | f ( me ) | f ( p )\n"
        for calls, many in (("g ( me ) | g ( you )", 60), ("g ( me ) | g ( you ) | c", 61), ("g ( me ) | f ( me )", 40),
                            ("any e in xs : ( g ( e ) & ~ g ( e ) )", 60), ("pick ( me , g ( me ) , g ( me ) )", 61)):
            self.assertEqual(error_of(built, f"{functions}take {calls}"),
                             None if many <= 60 else ("TooMany", "parts"), calls)

    def test_parts_of_functions_that_are_not_called(self):
        for many in (60, 61):
            text = "def f ( p ) : " + " & ".join(["id = p"] * many) + "\ntake every"
            self.assertEqual(error_of(built, text), None if many <= 60 else ("TooMany", "parts"))
        thirty = "def f ( p ) : " + " & ".join(["id = p"] * 30)
        self.assertIsNone(error_of(built, f"{thirty}\ndef g ( p ) : f ( p ) | f ( p )\ntake every"))
        self.assertEqual(error_of(built, f"{thirty}\ndef g ( p ) : f ( p ) | f ( p ) | every\ntake every"),
                         ("TooMany", "parts"))
        # A function counts where it is called, and not by itself.
        self.assertIsNone(error_of(built, f"{thirty}\n{thirty.replace('f (', 'g (')}\ntake f ( me ) | g ( me )"))

    def test_very_many_parts(self):
        names = [f"f{letter}" for letter in "abcdefghijklmnopqrstuvwxyz"]
        lines = ["def fa ( p ) : id = p"]
        for before, name in zip(names, names[1:]):
            lines.append(f"def {name} ( p ) : {before} ( p ) | {before} ( p )")
        for many in range(1, len(lines) + 1):
            wanted = None if 2 ** (many - 1) <= 60 else ("TooMany", "parts")
            self.assertEqual(error_of(built, "\n".join([*lines[:many], "take every"])), wanted, many)
        self.assertEqual(error_of(built, "\n".join([*lines, "take"])), ("BadBuilder", len(lines)))

    def test_variables(self):
        for text, many in (
            ("take c | d | k", 3), ("take c | d | k | m", 4), ("c = d\nif k :\n  c = c\ntake c", 3),
            ("c = d\nif k or m :\n  c = c\ntake c", 4), ("c = pick ( d , k , m )\ntake c", 4),
            ("c = every\nd = every\nk = every\nm = every\ntake every", 4), ("c = every\nc = c\ntake c", 1),
        ):
            self.assertEqual(error_of(built, text), None if many <= 3 else ("TooMany", "variables"), text)

    def test_which_error_comes_first(self):
        many = " | ".join(["every"] * 61)
        self.assertEqual(error_of(built, f"take {many} | c | d | k | m"), ("TooMany", "parts"))
        self.assertEqual(error_of(built, f"c = {many} | d | k | m\ntake every\n"), ("BadBuilder", 2))
        self.assertEqual(error_of(built, f"def f ( p ) : {many}\ntake id"), ("BadBuilder", 1))
        self.assertEqual(error_of(built, f"def f ( p ) : {many}"), ("BadBuilder", 1))
        self.assertEqual(error_of(built, "take c | d | k | m\ntake c"), ("BadBuilder", 1))


class Texts(unittest.TestCase):
    def test_str(self):
        for text, plain in (
            ("take   every ", "take every"), ("take id=3|~c", "take id = 3 | ~ c"),
            ("if  me:\n  c|=id=-4  \nelse:\n  c  = every\nguard  take c",
             "if me :\n  c |= id = -4\nelse :\n  c = every\nguard take c"),
            ("def f(p,q):id=p&q!=id\nfor e in xs:\n  if e:\n    break\ntake f(me,you)",
             "def f ( p , q ) : id = p & q != id\nfor e in xs :\n  if e :\n    break\ntake f ( me , you )"),
        ):
            self.assertEqual(str(built(text)), plain)
            self.assertEqual(str(built(plain)), plain)

    def test_len(self):
        self.assertEqual(len(built("take every")), 1)
        self.assertEqual(len(built("def f ( p ) : every\nif me :\n  refuse\nelse :\n  refuse\ntake c")), 6)

    def test_equality(self):
        builder = built("c = every\ntake c")
        self.assertTrue(builder == built("c  =every \ntake   c"))
        self.assertFalse(builder != built("c=every\ntake c"))
        for other in (built("c = every\ntake c | c"), built("c = every\ntake ( c )"), built("d = every\ntake d"),
                      built("c = every\ntake c", SMALL), built("c = every\ntake c", BARE), "c = every\ntake c", None,
                      built("guard c = every\ntake c"), 3, form_of(LARGE)):
            self.assertFalse(builder == other)
            self.assertTrue(builder != other)

    def test_by_name(self):
        builder = Builder(form=form_of(SMALL), text="take every")
        self.assertEqual(builder, Builder("take every", form_of(SMALL)))


if __name__ == "__main__":
    unittest.main()
