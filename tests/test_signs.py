"""Words of a text: point [4]."""

import itertools
import random
import unittest

from teefloors import errors, signs
from teefloors.signs import number_of, text_of, word_of, words
from tests.helpers import check_raises, check_transcript

EXAMPLES = r"""
>>> words("floor -1 0 # a remark\n2 07-")
[('floor', 0), ('-1', 0), ('0', 0), ('2', 1), ('07-', 1)]
>>> text_of([("lay", 0), ("0", 0), ("plan", 2)]), words("lay 0\n\nplan")
('lay 0\n\nplan\n', [('lay', 0), ('0', 0), ('plan', 2)])
>>> number_of("07"), number_of("120"), number_of("-0"), number_of("-12"), word_of(-7), words("")
(None, 120, None, -12, '-7', [])
>>> words("lay a\nB")
raises BadText(line=1)
>>> words("a.b")
raises BadText(line=0)
"""

WORD_SIGNS = "abcdefghijklmnopqrstuvwxyz0123456789-"
BAD_SIGNS = [chr(code) for code in range(ord("!"), ord("~") + 1) if chr(code) not in WORD_SIGNS + "#"]


def some_words(seed):
    """WORDS drawn from a seed."""
    draw = random.Random(seed)
    line = 0
    found = []
    for _ in range(draw.randrange(12)):
        line += draw.choice((0, 0, 0, 1, 1, 3))
        found.append(("".join(draw.choice(WORD_SIGNS) for _ in range(draw.randrange(1, 30))), line))
    return found


class Words(unittest.TestCase):
    def test_examples(self):
        check_transcript(self, EXAMPLES, [errors, signs])

    def test_there_and_back(self):
        for seed in range(300):
            told = some_words(seed)
            self.assertEqual(words(text_of(told)), told)

    def test_text_of(self):
        self.assertEqual(text_of([]), "")
        self.assertEqual(text_of(()), "")
        self.assertEqual(text_of([("a", 2)]), "\n\na\n")
        self.assertEqual(text_of([("a", 0), ("b", 0), ("-", 1), ("c", 4)]), "a b\n-\n\n\nc\n")
        self.assertEqual(text_of((["a", 0], ["b", 1])), "a\nb\n")
        self.assertEqual(text_of(words=[("a", 0)]), "a\n")

    def test_text_of_many_lines(self):
        self.assertEqual(text_of([("a", 10 ** 6)]), "\n" * 10 ** 6 + "a\n")

    def test_blanks_and_empty_lines(self):
        self.assertEqual(words("   a    b  \n\n  \n c"), [("a", 0), ("b", 0), ("c", 3)])
        for text in ("", " ", "\n", "\n\n\n", "  \n  "):
            self.assertEqual(words(text), [])
        self.assertEqual(words(text="a"), [("a", 0)])

    def test_each_sign_of_a_word(self):
        self.assertEqual(words(WORD_SIGNS), [(WORD_SIGNS, 0)])
        long = "x" * 5000
        self.assertEqual(words(f"{long} {long}"), [(long, 0), (long, 0)])

    def test_remarks(self):
        self.assertEqual(words("a#b c\nd"), [("a", 0), ("d", 1)])
        self.assertEqual(words("# all of it\n#\na # x # y"), [("a", 2)])
        self.assertEqual(words("a # B.~!{}"), [("a", 0)])
        self.assertEqual(words("a\n#" + "".join(BAD_SIGNS)), [("a", 0)])
        self.assertEqual(words("a #"), [("a", 0)])

    def test_more_blanks_and_remarks_change_nothing(self):
        for seed in range(100):
            told = some_words(seed)
            text = text_of(told)
            self.assertEqual(words(text.replace(" ", "    ").replace("\n", "   # Rem. #ark\n")), told)

    def test_line_break_put_in(self):
        self.assertEqual(words("a b c\nd"), [("a", 0), ("b", 0), ("c", 0), ("d", 1)])
        self.assertEqual(words("a b\n c\nd"), [("a", 0), ("b", 0), ("c", 1), ("d", 2)])

    def test_bad_text(self):
        for sign in BAD_SIGNS:
            check_raises(self, "BadText(line=0)", words, sign)
            check_raises(self, "BadText(line=2)", words, f"a\nb # {sign}\nc {sign} # {sign}\n{sign}")
            check_raises(self, "BadText(line=1)", words, text="\na" + sign + "b")
        check_raises(self, "BadText(line=0)", words, "A # b")

    def test_returned_lists_are_new(self):
        told = words("a b")
        told.append(("c", 0))
        self.assertEqual(words("a b"), [("a", 0), ("b", 0)])

    def test_arguments_stay(self):
        told = [["a", 0], ["b", 3]]
        text_of(told)
        self.assertEqual(told, [["a", 0], ["b", 3]])


class NumberWords(unittest.TestCase):
    def test_edges(self):
        told = {
            "0": 0, "-0": None, "-1": -1, "1": 1, "07": None, "-07": None, "00": None, "-00": None, "10": 10,
            "": None, "-": None, "--1": None, "1-": None, "1-2": None, "a": None, "1a": None, "0x1": None,
            "9" * 12: 10 ** 12 - 1, "9" * 13: None, "-" + "9" * 12: 1 - 10 ** 12, "-" + "9" * 13: None,
            "1" + "0" * 11: 10 ** 11, "1" + "0" * 12: None, "-1" + "0" * 11: -10 ** 11, "-1" + "0" * 12: None,
            "+1": None, " 1": None, "1 ": None, "1\n": None, "1_0": None, "\u0661": None, "\u00b2": None, "1.0": None,
        }
        for word, number in told.items():
            self.assertEqual(number_of(word), number, repr(word))
            self.assertEqual(number_of(word=word), number)

    def test_all_short_ones(self):
        for many in range(1, 4):
            for signs_told in itertools.product("0179-a", repeat=many):
                word = "".join(signs_told)
                rest = word[1:] if word.startswith("-") else word
                plain = rest.isdigit() and str(int(rest)) == rest and word != "-0"
                self.assertEqual(number_of(word), int(word) if plain else None, word)

    def test_word_of(self):
        for number in (0, 1, -1, 12, -12, 10 ** 12 - 1, 1 - 10 ** 12, 10 ** 11, 100):
            self.assertEqual(word_of(number), str(number))
            self.assertEqual(number_of(word_of(number=number)), number)


if __name__ == "__main__":
    unittest.main()
