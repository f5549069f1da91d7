"""The checker: examples, right claims of each word, what stands next to them, and values of every kind."""

import ast
import inspect
import unittest
from pathlib import Path

from hoursums import checker
from hoursums.checker import accepts
from hoursums.hours import Hours
from plain import NO_INTEGERS, NO_TEXTS, NO_TUPLES, SameAsAll

MOST = 10 ** 30
PRIME = 999999937
GREAT = 10 ** 9
WHOLE = str(Hours.whole(240))
EVEN = str(Hours(240, tuple(range(0, 240, 2))))
LEAST = (
    (("least", 12, 4, 3, 4), 4), (("least", 13, 4, 3, 6), 1), (("least", 7, 4, 4, 7), 1), (("least", 7, 4, 4, 7), 7),
    (("least", 1, 1, 1, 1), 1), (("least", GREAT, 10 ** 8, 10 ** 8, 10 ** 8), 10 ** 8),
    (("least", PRIME, 5, 7, 11), 1), (("least", PRIME, PRIME, 1, PRIME), PRIME), (("least", GREAT, 1, 1, 1), 1))
FOLD = (
    (("fold", 12, 5, 2, 6), 6), (("fold", 13, 2, 10 ** 20, 13), 13), (("fold", 12, 12, 0, 1), 1),
    (("fold", 1, 1, MOST, 1), 1), (("fold", GREAT, 1, MOST, 1), 1), (("fold", PRIME, 2, 5, 6), 1),
    (("fold", GREAT, 2, MOST, 2), 2), (("fold", PRIME, 2, MOST, PRIME), PRIME))
REACH = (
    (("reach", 12, 2, 7), 1), (("reach", 12, 2, 7), 2), (("reach", 12, 2, 7), 6), (("reach", 13, 3, 5), 1),
    (("reach", 1, 1, 1), 1), (("reach", 1, MOST, 1), 1), (("reach", GREAT, MOST, 500000001), 500000000),
    (("reach", PRIME, 1, PRIME), 1), (("reach", PRIME, MOST, 2), 1))
APART = (
    (("apart", 12, 1, 6), 2), (("apart", 7, 1, 2), 7), (("apart", 25, 2, 5), 5), (("apart", 25, 2, 5), 25),
    (("apart", 1, 1, 0), 1), (("apart", 1, MOST, 0), 1), (("apart", GREAT, MOST, 500000000), 2),
    (("apart", PRIME, MOST, 1), PRIME))
SUMS = (
    (("sums", "12: 0 3 7", "12: 1 2", "12: 1 2 4 5 8 9"), None), (("sums", "12:", "12: 0 3", "12:"), None),
    (("sums", "1: 0", "1: 0", "1: 0"), None), (("sums", WHOLE, "240: 239", WHOLE), None),
    (("sums", EVEN, EVEN, EVEN), None))
REACHED = (
    (("reached", "12: 2 6", 8, 2), (2, 6)), (("reached", "12: 2 6", 0, 0), ()), (("reached", "12:", 0, 0), ()),
    (("reached", "1: 0", 0, 0), ()), (("reached", "5: 1", 4, 4), (1, 1, 1, 1)), (("reached", WHOLE, 7, 1), (7,)),
    (("reached", "240: 1", 239, 239), (1,) * 239), (("reached", "12: 2 3 5", 7, 2), (2, 5)),
    (("reached", "12: 3 4 5 6", 9, 2), (3, 6)), (("reached", "12: 3 4 5 6", 9, 2), (4, 5)))
NEVER = (
    (("never", "12: 4 8", 2), 4), (("never", "12:", 5), 12), (("never", "12:", 5), 2), (("never", "12: 6", 3), 6),
    (("never", "240: 0", 239), 240), (("never", EVEN, 1), 2), (("never", "2:", 1), 2))
WITHIN = (
    (("within", "6: 0 1", "6: 0 1 2 4", "6: 0 1"), (1, 0, 1, 0)), (("within", "3: 0 1", "3:", "3:"), (1, 0, 1)),
    (("within", "3: 0 1", "3:", "3:"), (0, 0, 0)), (("within", "1: 0", "1:", "1:"), (0,)),
    (("within", "1:", "1:", "1: 0"), ()), (("within", "4:", "4: 3", "4: 0 1 2 3"), ()),
    (("within", WHOLE, WHOLE, WHOLE), ()),
    (("within", EVEN, "240: 3", "240:"), tuple([2 if hour == 3 else 0 for hour in range(240)])))
UNSOLVED = (
    (("unsolved", "4: 0 1", "4: 0"), (0, (1, 0))), (("unsolved", "4:", "4: 0 3"), (3, ())),
    (("unsolved", "4:", "4: 0 3"), (0, ())), (("unsolved", "12: 0 1", "12: 3 5 6"), (3, (1, 0))),
    (("unsolved", EVEN, "240: 7"), (7, tuple([(hour + 2) % 240 for hour in range(0, 240, 2)]))))
TILING = (
    (("tiling", "4: 0 1", "4: 0 2"), None), (("tiling", "6: 0 1", "6: 0 2 4"), None),
    (("tiling", "1: 0", "1: 0"), None), (("tiling", "12: 5", str(Hours.whole(12))), None),
    (("tiling", WHOLE, "240: 0"), None),
    (("tiling", EVEN, "240: 0 239"), None))
RIGHT = LEAST + FOLD + REACH + APART + SUMS + REACHED + NEVER + WITHIN + UNSOLVED + TILING
WORDS = ("least", "fold", "reach", "apart", "sums", "reached", "never", "within", "unsolved", "tiling")
ANY = NO_INTEGERS + (0, 1, -1, 3, MOST, -MOST, 10 ** 400, "least", "12: 0", ("least", 12, 4, 3, 4), SameAsAll())


def put(row, at, value):
    """The tuple with another value in one place."""
    return row[:at] + (value,) + row[at + 1:]


def bent(text):
    """Texts next to this one, each with one sign or one word more, fewer, or another one."""
    told = [text[:at] + text[at + 1:] for at in range(len(text))]
    told += [text[:at] + sign + text[at:] for at in range(len(text) + 1) for sign in " 0:-+_,.\n"]
    told += [text[:at] + sign + text[at + 1:] for at in range(len(text)) for sign in " :-;xX\n~"]
    words = text.split(" ")
    told += [" ".join(words + [word]) for word in ("12", "240", "-1", "0", "00", "x", "1.0", "1e0", "0x1", "1_1", "~")]
    told += [" ".join(words[:at] + words[at:at + 1] + words[at:]) for at in range(1, len(words))]
    told += [" ".join(words[:1] + words[:0:-1])]
    return sorted({each for each in told if each != text})


def is_text(text):
    try:
        return str(Hours.read(text)) == text
    except ValueError:
        return False


class ExamplesTest(unittest.TestCase):
    def test_the_examples(self):
        self.assertEqual(
            [accepts(("least", 12, 4, 3, 4), 4), accepts(("least", 12, 4, 3, 6), 1), accepts(("fold", 12, 5, 2, 6), 6)],
            [True, False, True])

    def test_right_claims(self):
        self.assertEqual({claim[0] for claim, _ in RIGHT}, set(WORDS))
        for claim, certificate in RIGHT:
            self.assertIs(accepts(claim, certificate), True, claim)
            self.assertIs(accepts(claim, certificate), True, claim)
            self.assertIs(accepts(certificate=certificate, claim=claim), True, claim)


class InterfaceTest(unittest.TestCase):
    def test_the_function_is_defined_in_its_file(self):
        self.assertTrue(inspect.isfunction(accepts))
        self.assertEqual((accepts.__module__, checker.accepts), ("hoursums.checker", accepts))
        self.assertEqual(list(inspect.signature(accepts).parameters), ["claim", "certificate"])

    def test_only_errors_and_limits_are_imported_from_the_package(self):
        tree = ast.parse(Path(checker.__file__).read_text())
        self.assertEqual([node for node in ast.walk(tree) if isinstance(node, ast.Import)], [])
        modules = {node.module for node in ast.walk(tree) if isinstance(node, ast.ImportFrom)}
        self.assertLessEqual(modules, {"hoursums.errors", "hoursums.limits", "math"})


class NextToRightTest(unittest.TestCase):
    def refused(self, claim, certificate):
        self.assertIs(accepts(claim, certificate), False, (claim, certificate))

    def test_other_least_numbers_and_most(self):
        for claim, d in LEAST + FOLD + REACH + APART:
            told = claim[-1]
            for number in (told - 2, told - 1, told + 1, told + 2, told + GREAT, -1, -1 - told, 10 ** 400):
                self.refused(claim[:-1] + (number,), d)
            for divisor in (0, -1, -d, claim[1] + 1, 2 * claim[1], MOST, 10 ** 400):
                self.refused(claim, divisor)

    def test_divisors_that_tell_other_numbers(self):
        for claim, divisors in (
                (("least", 12, 4, 3, 4), (1, 2, 3, 5, 6, 8, 12)), (("fold", 12, 5, 2, 6), (1, 2, 3, 4, 12)),
                (("reach", 12, 2, 7), (4, 5, 12)), (("apart", 12, 1, 6), (1, 3, 12, 5)),
                (("apart", 25, 2, 5), (1, 2, 50)), (("least", PRIME, 5, 7, 11), (2, 3, PRIME))):
            for divisor in divisors:
                self.refused(claim, divisor)

    def test_a_number_that_only_its_divisor_tells(self):
        # 6 is what 1 tells, and enough for sets in a row, but the multiples of 3 have fewer sums.
        self.refused(("least", 12, 4, 3, 6), 1)
        self.refused(("fold", 12, 5, 2, 9), 1)
        self.refused(("reach", 12, 2, 5), 3)
        self.refused(("apart", 12, 1, 4), 12)

    def test_numbers_out_of_their_limits(self):
        for claim, d in (
                (("least", GREAT + 1, 1, 1, 1), 1), (("least", 10 ** 400, 1, 1, 1), 1), (("least", 12, 0, 1, 0), 1),
                (("least", 12, 0, 1, 1), 1), (("least", 12, 1, 0, 0), 1), (("least", 12, 13, 1, 13), 1),
                (("least", 12, 1, 13, 13), 1), (("fold", GREAT + 1, 1, 1, 1), 1), (("fold", 12, 1, MOST + 1, 1), 1),
                (("fold", 12, 12, MOST + 1, 12), 12), (("fold", 12, 0, 1, 0), 1), (("fold", 12, 13, 1, 13), 1),
                (("fold", 12, 1, -1, 1), 1), (("reach", GREAT + 1, 1, GREAT + 1), 1), (("reach", 12, MOST + 1, 7), 6),
                (("reach", 12, 0, 1), 1), (("reach", 12, 0, 12), 1), (("reach", 12, -1, -10), 1),
                (("apart", GREAT + 1, 1, 1), 1), (("apart", 12, MOST + 1, 6), 2), (("apart", 12, 0, 11), 12),
                (("apart", 12, 0, 6), 2), (("apart", 12, -1, 6), 2)):
            self.refused(claim, d)

    def test_the_greatest_numbers(self):
        self.assertIs(accepts(("fold", 12, 12, MOST, 12), 12), True)
        self.assertIs(accepts(("reach", 12, MOST, 7), 6), True)
        self.assertIs(accepts(("apart", 12, MOST, 6), 2), True)

    def test_other_sets_of_sums(self):
        for x in ("12: 1 2 4 5 8", "12: 1 2 4 5 8 9 10", "12: 0 2 4 5 8 9", "12:", "13: 1 2 4 5 8 9",
                  "24: 1 2 4 5 8 9"):
            self.refused(("sums", "12: 0 3 7", "12: 1 2", x), None)
        self.refused(("sums", "12: 0 3 7", "12: 1", "12: 1 2 4 5 8 9"), None)
        self.refused(("sums", "12:", "12:", "12: 0"), None)

    def test_other_rows_of_hours(self):
        for claim, rows in (
                (("reached", "12: 2 6", 8, 2), (
                    (6, 2), (4, 4), (2,), (2, 6, 0), (2, 2, 4), (), (2, 18), (-10, 6), (8,))),
                (("reached", "12: 2 6", 8, 4), ((2, 2, 2, 2),)), (("reached", "12: 2 6", 8, 3), ((2, 2, 2), (2, 6, 6))),
                (("reached", "12: 2 6", 8, 1), ((8,), (2,), (6,), (2, 6))),
                (("reached", "12: 2 6", 8, 0), ((), (2, 6))),
                (("reached", "12: 0 2 6", 8, 3), ((0, 2, 6),)), (("reached", "12: 2 6", 0, 2), ((6, 6),)),
                (("reached", "12: 2 6", 0, 0), ((6, 6), (0,))), (("reached", "12: 0 2 6", 0, 1), ((0,),)),
                (("reached", "12: 2 6", 20, 2), ((2, 6),)), (("reached", "12: 2 6", -4, 2), ((2, 6),)),
                (("reached", "12: 2 6", 10, 2), ((2, 6), (2, 8))), (("reached", "12: 4 8", 2, 1), ((2,), (4,))),
                (("reached", "12: 4 8", 2, 2), ((4, 8), (4, 10))), (("reached", "12: 2 6", 8, -2), ((2, 6),)),
                (("reached", "12: 3 4 5 6", 9, 2), ((5, 4), (6, 3), (4, 4), (5, 5))),
                (("reached", "12: 2 6", 8, MOST), ((2, 6),)),
                (("reached", "12: 2 6", 8, MOST + 1), ((2, 6), ()))):
            for row in rows:
                self.refused(claim, row)

    def test_other_divisors_for_what_is_never_reached(self):
        for claim, divisors in (
                (("never", "12: 4 8", 2), (1, 2, 3, 8, 12, 0, -4, 16, MOST)), (("never", "12: 4 8", 8), range(-13, 14)),
                (("never", "12: 4 8", 0), range(-13, 14)), (("never", "12: 5", 2), range(-13, 14)),
                (("never", "12: 4 8", 14), (4,)), (("never", "12: 4 8", -2), (4,)),
                (("never", "12:", 0), range(-13, 14)), (("never", "12: 8", 4), (8,)),
                (("never", "12: 5", 1), (5,)), (("never", "1:", 0), range(-2, 3))):
            for divisor in divisors:
                self.refused(claim, divisor)

    def test_other_sets_within(self):
        row = (1, 0, 1, 0)
        for claim, rows in (
                (("within", "6: 0 1", "6: 0 1 2 4", "6: 0 1"), (
                    (1, 0, 1), (1, 0, 1, 0, 0), (), (0, 0, 1, 0), (1, 1, 1, 0), (1, 0, 0, 0), (1, 0, 1, 1),
                    (2, 0, 1, 0), (1, 0, 1, 6), (-5, 0, 1, 0))),
                (("within", "6: 0 1", "6: 0 1 2 4", "6: 0"), (row, (0,) + row, (1,) + row, row + (0,))),
                (("within", "6: 0 1", "6: 0 1 2 4", "6: 0 1 3"), (row, row[:3], (1, 1, 0))),
                (("within", "6: 0 1", "6: 0 1 2 4", "6:"), (row, (0, 0) + row)),
                (("within", "1:", "1:", "1:"), ((), (0,))), (("within", "1: 0", "1:", "1: 0"), ((), (0,)))):
            for each in rows:
                self.refused(claim, each)

    def test_other_rows_of_what_is_unsolved(self):
        claim = ("unsolved", "4: 0 1", "4: 0")
        for certificate in (
                (0, (0, 0)), (0, (1, 1)), (0, (0, 1)), (0, (1,)), (0, (1, 0, 0)), (0, ()), (1, (0, 0)), (1, (1, 0)),
                (4, (1, 0)), (-4, (1, 0)), (0, (5, 0)), (0, (1, -4)), (0, (2, 0)), (0, (1, 0), 0), (0, 1, 0), (0,), (),
                ((0, (1, 0)),), ((1, 0), 0), (0, [1, 0]), [0, (1, 0)], (0, None), None):
            self.refused(claim, certificate)
        for certificate in ((1, (0, 0)), (1, (0, 1)), (1, (1, 0)), (1, (1, 1)), (2, (0, 0)), (2, (1, 0))):
            self.refused(("unsolved", "4: 0 1", "4: 1 2"), certificate)
        for certificate in ((0, ()), (1, ()), (None, ()), ((), ())):
            self.refused(("unsolved", "4:", "4:"), certificate)
        self.refused(("unsolved", "4:", "4: 1"), (0, ()))

    def test_other_tilings(self):
        for one, x in (("6: 0 1", "6: 1 3 5"), ("6: 0 1", "6: 0 2"), ("6: 0 1", "6: 0 2 3 4"), ("6: 0 1", "6: 0 1 2"),
                       ("6: 0 1", "6:"), ("6:", "6: 0"), ("6:", "6:"), ("6: 0 1", "12: 0 2 4"), ("1: 0", "1:"),
                       ("12: 0 1 3", "12: 0 4 8"), ("6: 0 2 4", "6: 0 3 4"), (WHOLE, "240: 1"), (WHOLE, "240: 0 1")):
            self.refused(("tiling", one, x), None)

    def test_other_certificates_in_the_place_of_none(self):
        for claim, _ in SUMS + TILING:
            for value in ANY:
                if value is not None:
                    self.refused(claim, value)

    def test_other_words(self):
        kinds = {word: [] for word in WORDS}
        for claim, _ in RIGHT:
            kinds[claim[0]].append([type(value) for value in claim[1:]])
        for claim, certificate in RIGHT:
            word = claim[0]
            for other in (word.upper(), word.title(), word + " ", " " + word, word[:-1], word + "s", word * 2, "", "x"):
                self.refused((other,) + claim[1:], certificate)
            for word in WORDS:
                # With elements of the same kinds the claim of another word may be true as well.
                if [type(value) for value in claim[1:]] not in kinds[word]:
                    self.refused((word,) + claim[1:], certificate)
        self.refused(("fold", 12, 4, 3, 4), 1)
        self.refused(("least", 12, 5, 2, 5), 5)
        self.refused(("apart", 12, 2, 7), 1)
        self.refused(("reach", 12, 1, 6), 2)
        self.refused(("within", "12: 0 3 7", "12: 1 2", "12: 1 2 4 5 8 9"), None)

    def test_more_and_fewer_elements(self):
        for claim, certificate in RIGHT:
            for at in range(len(claim)):
                self.refused(claim[:at] + claim[at + 1:], certificate)
                self.refused(claim[:at + 1] + claim[at:], certificate)
            for value in (None, 0, 1, "12: 0", (), certificate):
                self.refused(claim + (value,), certificate)
            self.refused((claim,), certificate)
            self.refused((claim, certificate), None)
            self.refused((claim, certificate), certificate)

    def test_texts_with_one_sign_bent(self):
        for claim, certificate in SUMS + REACHED + NEVER + WITHIN + UNSOLVED + TILING:
            for at, value in enumerate(claim[1:], 1):
                if isinstance(value, str) and len(value) < 30:
                    for text in bent(value):
                        if not is_text(text):
                            self.refused(put(claim, at, text), certificate)

    def test_texts_of_no_set(self):
        for text in ("", " ", ":", "0:", "0: 0", "241:", "241: 0", "999: 0", "1000: 0", "01: 0", "+1: 0", "1 : 0",
                     "1:0", "1: 0 ", " 1: 0", "1:  0", "1: 0\n", "1: 00", "1: -0", "1: +0", "1: 1", "1: 0 0", "1",
                     "1 0", "1: ", "1.0: 0", "1:: 0", "1: 0:", "1:\t0", "1:\n0", "1: 0 x", "x: 0", "-1: 0", "1: False",
                     "True: 0"):
            self.assertFalse(is_text(text))
            for claim, certificate in (
                    (("sums", text, text, text), None), (("sums", text, "1: 0", "1: 0"), None),
                    (("sums", "1: 0", text, "1: 0"), None), (("sums", "1: 0", "1: 0", text), None),
                    (("reached", text, 0, 0), ()), (("never", text, 1), 1), (("never", text, 1), 2),
                    (("within", text, "1:", "1:"), (0,)), (("within", "1: 0", text, "1:"), (0,)),
                    (("within", "1: 0", "1:", text), (0,)), (("within", "1:", "1:", text), ()),
                    (("unsolved", "1:", text), (0, ())), (("unsolved", text, "1: 0"), (0, ())),
                    (("tiling", text, "1: 0"), None), (("tiling", "1: 0", text), None)):
                self.refused(claim, certificate)

    def test_sets_on_the_greatest_clock(self):
        self.assertIs(accepts(("sums", "240: 0", "240: 1", "240: 1"), None), True)
        self.refused(("sums", "241: 0", "241: 1", "241: 1"), None)
        self.refused(("tiling", "241: 0", "241: " + " ".join(map(str, range(241)))), None)
        self.refused(("reached", "241: 1", 1, 1), (1,))


class AnyValueTest(unittest.TestCase):
    def refused(self, claim, certificate):
        self.assertIs(accepts(claim, certificate), False)

    def test_claims_that_are_none(self):
        for value in ANY[:-1] + ((), ((),), ("",), ("least",), ("sums",), ("never",), ("x", 1), (None,) * 4, (0,) * 5):
            for certificate in (None, 0, 1, (), (0, ()), "12: 0", SameAsAll()):
                if value != ("least", 12, 4, 3, 4):
                    self.refused(value, certificate)
        for claim, certificate in RIGHT:
            self.refused(list(claim), certificate)
            self.refused(dict(enumerate(claim)), certificate)
            self.refused(str(claim), certificate)
            self.refused(certificate, claim)
        self.refused(SameAsAll(), SameAsAll())

    def test_values_of_every_kind_in_the_place_of_the_word(self):
        for claim, certificate in RIGHT:
            for value in ANY + (claim[0].encode(), [claim[0]], (claim[0],), {claim[0]}):
                # As least sums a claim of many summands may be true as well.
                if type(value) is not str or (value, claim[0]) not in (("least", "least"), ("least", "fold")):
                    self.refused(put(claim, 0, value), certificate)

    def test_values_of_every_kind_in_the_place_of_numbers(self):
        for claim, certificate in RIGHT:
            for at, value in enumerate(claim[1:], 1):
                if isinstance(value, int):
                    for other in NO_INTEGERS + (str(value), (value,), [value], {value}, SameAsAll()):
                        self.refused(put(claim, at, other), certificate)

    def test_values_of_every_kind_in_the_place_of_texts(self):
        for claim, certificate in RIGHT:
            for at, value in enumerate(claim[1:], 1):
                if isinstance(value, str):
                    for other in NO_TEXTS + (value.encode(), [value], (value,), Hours.read(value), SameAsAll()):
                        self.refused(put(claim, at, other), certificate)

    def test_values_of_every_kind_in_the_place_of_the_certificate(self):
        for claim, certificate in RIGHT:
            wrong = NO_INTEGERS if isinstance(certificate, int) else NO_TUPLES
            for other in wrong + (SameAsAll(), [certificate], (certificate,), str(certificate)):
                if certificate is not None or other is not None:
                    self.refused(claim, other)

    def test_values_of_every_kind_in_rows(self):
        for claim, row in REACHED + WITHIN:
            self.refused(claim, list(row))
            for at in sorted({0, len(row) // 2, len(row) - 1}) if row else ():
                for other in NO_INTEGERS + (str(row[at]), [row[at]], SameAsAll(), -1, 240, 10 ** 400):
                    self.refused(claim, put(row, at, other))
        for claim, (hour, row) in UNSOLVED:
            self.refused(claim, [hour, row])
            self.refused(claim, (hour, list(row)))
            for other in NO_INTEGERS + (str(hour), [hour], SameAsAll(), -1, 240, 10 ** 400):
                self.refused(claim, (other, row))
            for other in NO_TUPLES + (str(row), (row,), SameAsAll()):
                self.refused(claim, (hour, other))
            for at in sorted({0, len(row) // 2, len(row) - 1}) if row else ():
                for other in NO_INTEGERS + (str(row[at]), [row[at]], SameAsAll(), -1, 240, 10 ** 400):
                    self.refused(claim, (hour, put(row, at, other)))

    def test_true_and_false_are_no_integers(self):
        for claim, certificate in (
                (("least", True, 1, 1, 1), 1), (("least", 1, True, 1, 1), 1), (("least", 1, 1, True, 1), 1),
                (("least", 1, 1, 1, True), 1), (("least", 1, 1, 1, 1), True), (("fold", 1, 1, False, 1), 1),
                (("fold", 12, 1, True, 1), 1), (("reach", 1, True, 1), 1), (("reach", 1, 1, 1), True),
                (("apart", 1, 1, False), 1), (("apart", 1, True, 0), 1), (("apart", 1, 1, 0), True),
                (("reached", "12: 2", False, 0), ()), (("reached", "12: 2", 0, False), ()),
                (("reached", "12: 1", 1, True), (1,)), (("reached", "12: 1", 1, 1), (True,)),
                (("reached", "12: 1", True, 1), (1,)), (("never", "12: 2", True), 2),
                (("within", "1: 0", "1:", "1:"), (False,)), (("within", "2: 1", "2: 1", "2: 0"), (True,)),
                (("unsolved", "4: 0 1", "4: 0"), (False, (1, 0))), (("unsolved", "4: 0 1", "4: 0"), (0, (True, 0))),
                (("unsolved", "4: 0 1", "4: 0"), (0, (1, False)))):
            self.refused(claim, certificate)
        self.assertIs(accepts(("within", "2: 1", "2: 1", "2: 0"), (1,)), True)

    def test_long_rows(self):
        self.refused(("reached", "12: 2 6", 8, 10 ** 5), (2,) * 10 ** 5)
        self.refused(("within", "6: 0 1", "6: 0 1 2 4", "6: 0 1"), (0,) * 10 ** 5)
        self.refused(("unsolved", "4: 0 1", "4: 0"), (0, (1, 0) * 10 ** 5))
        self.refused(("least",) * 10 ** 5, None)

    def test_values_nested_ten_deep(self):
        deep = ()
        for _ in range(9):
            deep = (deep,)
        for claim, certificate in RIGHT:
            self.refused(deep, certificate)
            self.refused(claim, deep)
            for at in range(len(claim)):
                self.refused(put(claim, at, deep), certificate)


if __name__ == "__main__":
    unittest.main()
