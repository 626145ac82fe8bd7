"""Texts of shops: document points [45] and [46]."""

import itertools
import random
import re
import time
import unittest

from tests import helper
from tickcounts.errors import InvalidShop, InvalidText
from tickcounts.shops import Shop
from tickcounts.texts import read_shop, text_of

TEXT = "hue or many: red blue / size and one: s m"
TOKENS = ["hue", "or", "many", ":", "red", "blue", "/", "size", "and", "one", ":", "s", "m"]
OTHER_SPACES = ["\t", "\r", "\x0b", "\x0c", "\x00", "\x1c", "\x1f", "\x85", "\u00a0", "\u2003", "\u2028", "\u3000"]


def four():
    return [
        ("abcdefgh", "or", "many", ["a", "abcdefgh", "zzzzzzzz", "b", "c"]),
        ("or", "and", "one", ["many"]),
        ("one", "and", "many", ["or", "and", "one", "many"]),
        ("z", "or", "one", ["abcdefgh", "or"]),
    ]


def is_word(token):
    return re.fullmatch("[a-z]{1,8}", token) is not None


def plain_read(text):
    """The groups of a text by the words of the document, None if it is none; token by token."""
    tokens = re.findall("[a-z]+|[^a-z \n]", text)
    rest, groups = [*tokens, "/"], []
    while rest:
        at = rest.index("/")
        piece, rest = rest[:at], rest[at + 1:]
        if len(piece) < 5 or piece[3] != ":" or not all(map(is_word, piece[:3] + piece[4:])):
            return None
        name, mode, bears, boxes = piece[0], piece[1], piece[2], piece[4:]
        if mode not in ("or", "and") or bears not in ("one", "many"):
            return None
        if len(boxes) > 5 or len(set(boxes)) < len(boxes) or name in [group[0] for group in groups]:
            return None
        groups.append((name, mode, bears, boxes))
    return groups if len(groups) <= 4 else None


def spaced(tokens, chance):
    """The tokens with any blanks and line ends around them, at least one between two words."""
    text = ""
    for at, token in enumerate(tokens):
        least = 1 if at > 0 and is_word(tokens[at - 1]) and is_word(token) else 0
        text += "".join(chance.choice(" \n") for _ in range(chance.choice([least, least, 1, 3]))) + token
    return text + chance.choice(["", " ", "\n", " \n\n "])


class Texts(helper.Checks):
    def assert_text(self, text):
        """A text is read or refused by the words of the document."""
        groups = plain_read(text)
        if groups is None:
            self.assert_raised(InvalidText, text, read_shop, text)
        else:
            self.assertEqual(read_shop(text).groups(), groups)
        return groups is not None


class TestTextOf(Texts, unittest.TestCase):
    def test_shops_of_one_to_four_groups(self):
        told = [
            "abcdefgh or many: a abcdefgh zzzzzzzz b c", "or and one: many", "one and many: or and one many",
            "z or one: abcdefgh or",
        ]
        for many in range(1, 5):
            self.assertEqual(text_of(Shop(four()[:many])), " / ".join(told[:many]))
        self.assertEqual(text_of(helper.shop()), TEXT)
        self.assertIs(text_of(helper.shop()).__class__, str)

    def test_there_and_back(self):
        for groups in [*helper.small_shops(), four(), four()[1:], four()[:1]]:
            shop = Shop(groups)
            self.assertEqual(read_shop(text_of(shop)), shop)
            self.assertEqual(read_shop(text_of(shop)).groups(), groups)

    def test_wrong_shops(self):
        for value in [*helper.wrong_shops(), TEXT]:
            with self.subTest(value=value):
                self.assert_raised(InvalidShop, value, text_of, value)

    def test_by_name(self):
        self.assertEqual(text_of(shop=helper.shop()), TEXT)
        self.assertEqual(read_shop(text=TEXT), helper.shop())

    def test_told_shops_are_new(self):
        shop = read_shop(TEXT)
        shop.groups()[0][3].append("tan")
        shop.boxes("hue").append("tan")
        self.assertEqual(shop, helper.shop())
        self.assertIsNot(read_shop(TEXT), read_shop(TEXT))
        self.assertIs(shop.__class__, Shop)


class TestReadShop(Texts, unittest.TestCase):
    def test_any_blanks_and_line_ends(self):
        chance = random.Random(45)
        for _ in range(300):
            self.assertEqual(read_shop(spaced(TOKENS, chance)), helper.shop())
        tight = "hue or many:red blue/size and one:s m"
        for text in (tight, f"\n {tight} \n", tight.replace(" ", "\n"), tight.replace(" ", " \n  ")):
            self.assertEqual(read_shop(text), helper.shop())
        for groups in helper.small_shops():
            tokens = re.findall("[a-z]+|[:/]", text_of(Shop(groups)))
            for _ in range(5):
                self.assertEqual(read_shop(spaced(tokens, chance)).groups(), groups)

    def test_words_that_touch(self):
        for at in range(len(TOKENS) - 1):
            if is_word(TOKENS[at]) and is_word(TOKENS[at + 1]):
                tokens = [*TOKENS[:at], TOKENS[at] + TOKENS[at + 1], *TOKENS[at + 2:]]
                self.assertEqual(self.assert_text(" ".join(tokens)), TOKENS[at] in ("red", "s"))
        self.assertEqual(read_shop("hue or many: redblue").boxes("hue"), ["redblue"])
        self.assertFalse(self.assert_text("hue or many: redredredred"))
        self.assertFalse(self.assert_text("hueormany: red"))
        self.assertFalse(self.assert_text("hue or manyred: blue"))

    def test_a_token_left_out_put_in_doubled_or_exchanged(self):
        chance, right = random.Random(46), []
        some = ["hue", "size", "or", "and", "one", "many", ":", "/", "red", "s", "tan", "x"]
        for at in range(len(TOKENS)):
            texts = [[*TOKENS[:at], *TOKENS[at + 1:]], [*TOKENS[:at], TOKENS[at], *TOKENS[at:]]]
            texts.extend([*TOKENS[:at], token, *TOKENS[at:]] for token in some)
            texts.extend([*TOKENS[:at], token, *TOKENS[at + 1:]] for token in some)
            for other in range(at):
                tokens = list(TOKENS)
                tokens[at], tokens[other] = tokens[other], tokens[at]
                texts.append(tokens)
            for tokens in texts:
                right.append(self.assert_text(spaced(tokens, chance)))
        # Such texts are of both kinds.
        self.assertGreater(right.count(True), 20)
        self.assertGreater(right.count(False), 100)

    def test_any_tokens(self):
        chance, right = random.Random(47), 0
        for _ in range(2000):
            tokens = []
            for _ in range(chance.randrange(1, 6)):
                tokens.extend([chance.choice("abcde"), chance.choice(["or", "and"]), chance.choice(["one", "many"]), ":"])
                tokens.extend(chance.choice(["a", "b", "or", "one", "abcdefgh", "c", "d"])
                              for _ in range(chance.randrange(1, 4)))
                tokens.append("/")
            right += self.assert_text(spaced(tokens[:-1], chance))
        self.assertGreater(right, 300)
        self.assertLess(right, 1700)

    def test_names_of_0_8_and_9_letters(self):
        for text in ("{} or one: a", "a or one: {}", "a or one: {} b", "a or one: b {}", "b or one: a / {} or one: a"):
            self.assertTrue(self.assert_text(text.format("abcdefgh")))
            self.assertFalse(self.assert_text(text.format("abcdefghi")))
            self.assertFalse(self.assert_text(text.format("A")))
            self.assertEqual(self.assert_text(text.format("")), text in ("a or one: {} b", "a or one: b {}"))

    def test_modes_and_amounts(self):
        for mode, bears in itertools.product(("or", "and"), ("one", "many")):
            self.assertEqual(read_shop(f"a {mode} {bears}: b").groups(), [("a", mode, bears, ["b"])])
        for words in ("xor one", "or two", "Or one", "or Many", "one or", "many and", "or or", "one one", "or", "one"):
            self.assertFalse(self.assert_text(f"a {words}: b"))

    def test_a_box_or_a_name_twice(self):
        for text in ("a or one: b b", "a or one: b c d e b", "a or one: b / a and many: c", "a or one: a b a"):
            self.assertFalse(self.assert_text(text))
        for text in ("a or one: a", "a or one: b / c and many: b", "a or one: b a / b or one: a b"):
            self.assertTrue(self.assert_text(text))

    def test_one_to_six_boxes_and_one_to_five_groups(self):
        for many in range(8):
            self.assertEqual(self.assert_text("g or many: " + " ".join("abcdefgh"[:many])), 1 <= many <= 5)
            groups = [f"{name} or many: x" for name in "abcdefgh"[:many]]
            self.assertEqual(self.assert_text(" / ".join(groups)), 1 <= many <= 4)

    def test_one_slash_between_two_groups(self):
        for text in (
            "", " ", "\n", "/", ":", "//", "/ " + TEXT, TEXT + " /", TEXT.replace("/", "//"), TEXT.replace("/", "/ /"),
            TEXT.replace(" / ", " "), TEXT.replace(":", "::"), TEXT.replace(":", ": :"), TEXT.replace(":", ""),
            TEXT.replace("/", ":"), TEXT.replace(":", "/"), "/".join([TEXT] * 2), ": " + TEXT, TEXT + ":",
        ):
            self.assertFalse(self.assert_text(text))

    def test_other_white_space(self):
        for space in OTHER_SPACES:
            for text in (
                TEXT.replace(" ", space), TEXT.replace("red blue", f"red{space}blue"), space + TEXT, TEXT + space,
                TEXT.replace("red ", f"red {space}"), TEXT.replace(": ", f":{space}"), TEXT.replace(" /", f"{space}/"),
            ):
                self.assertFalse(self.assert_text(text))

    def test_other_signs(self):
        for sign in [
            "A", "0", "_", "-", ",", ";", ".", "\\", "|", "\u00e9", "\u00df", "\uff41", "\uff1a", "\u2215", "\U0001d41a", "\u0301",
        ]:
            for at in range(len(TEXT) + 1):
                self.assertFalse(self.assert_text(TEXT[:at] + sign + TEXT[at:]))

    def test_values_of_any_kind(self):
        for value in [
            *helper.odd_values(), TEXT.encode(), [TEXT], (TEXT,), {TEXT: TEXT}, helper.shop(), TOKENS, helper.GROUPS,
        ]:
            with self.subTest(value=value):
                self.assert_raised(InvalidText, value, read_shop, value)

    def test_texts_of_2000_signs_within_seconds(self):
        began = time.monotonic()
        self.assertEqual(read_shop(TEXT.replace(" ", " \n" * 95)), helper.shop())
        self.assertEqual(read_shop(" " * 900 + TEXT + "\n" * 1000), helper.shop())
        for text in ("/" * 2000, ":" * 2000, "a" * 2000, "a " * 1000, "a:" * 1000, TEXT + "/a" * 970, " " * 2000):
            self.assertFalse(self.assert_text(text))
        self.assertLess(time.monotonic() - began, 5)


if __name__ == "__main__":
    unittest.main()
