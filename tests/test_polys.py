"""Polynomials and words: part 1 and narrowplay/polys.py."""

import itertools
import random
import unittest

from narrowplay import polys
from narrowplay.errors import BadNumber, BadPoly, BadText
from narrowplay.polys import is_poly, is_word, poly_read, poly_text, product_of, sum_of, value_at
from tests.helpers import ANY_VALUES, check_gives, check_parameters, check_raises, run_examples

EXAMPLES = r"""
>>> from narrowplay.polys import is_poly, poly_read, poly_text, product_of, sum_of, value_at
>>> P = ((0, 5), (1, 1), (2, 3))
>>> [is_poly(((1, 0),)), value_at(P, 2), poly_text(P), poly_read('n + 1'), sum_of(P, ((1, 2),)), product_of(((0, 1), (1, 1)), ((1, 2),)), poly_text(())]
[False, 19, '3*n^2 + n + 5', ((0, 1), (1, 1)), ((0, 5), (1, 3), (2, 3)), ((1, 2), (2, 2)), '0']
>>> poly_read('1*n')
raises BadText(at=1)
"""

TEXTS = [
    ((), "0"),
    (((0, 1),), "1"),
    (((0, 2),), "2"),
    (((0, 10),), "10"),
    (((0, 10 ** 12),), "1000000000000"),
    (((1, 1),), "n"),
    (((1, 2),), "2*n"),
    (((1, 10),), "10*n"),
    (((1, 11),), "11*n"),
    (((2, 1),), "n^2"),
    (((2, 20),), "20*n^2"),
    (((10, 1),), "n^10"),
    (((12, 10 ** 12),), "1000000000000*n^12"),
    (((0, 1), (1, 1)), "n + 1"),
    (((0, 5), (1, 1), (2, 3)), "3*n^2 + n + 5"),
    (((1, 1), (3, 1)), "n^3 + n"),
    (((0, 1), (2, 1), (9, 100), (11, 1), (12, 7)), "7*n^12 + n^11 + 100*n^9 + n^2 + 1"),
    (tuple((exponent, exponent + 1) for exponent in range(13)),
     "13*n^12 + 12*n^11 + 11*n^10 + 10*n^9 + 9*n^8 + 8*n^7 + 7*n^6 + 6*n^5 + 5*n^4 + 4*n^3 + 3*n^2 + 2*n + 1"),
]

POLYS = [poly for poly, _ in TEXTS] + [((0, 3), (1, 2)), ((4, 6),), ((1, 10 ** 12), (12, 10 ** 12))]

NO_POLYS = [
    ((0, 0),), ((1, 0),), ((0, -1),), ((-1, 1),), ((1, -3),), ((0, 1), (1, 0)), ((0, 0), (1, 1)),
    ((0, True),), ((True, 1),), ((False, 1),), ((0, 1), (True, 1)), ((0, 1), (1, True)), ((0, False),),
    [], [(0, 1)], ([0, 1],), ((0, 1), [1, 1]), [[0, 1]], {}, {0: 1}, ({0: 1},), {(0, 1): 1},
    ((1, 1), (0, 1)), ((0, 1), (2, 1), (1, 1)), ((0, 1), (0, 1)), ((0, 1), (0, 2)), ((0, 2), (0, 1)), ((1, 1), (1, 2)),
    ((0, 1), (3, 1), (3, 1)), ((2, 1), (2, 1), (3, 1)),
    (0, 1), ((0,),), ((0, 1, 2),), ((),), (((0, 1),),), ((0, 1), ()), ((0, 1), 2), (0,), (None,), ("n",), ("01",),
    (("0", 1),), ((0, "1"),), ((None, 1),), ((0, None),), (((), 1),), ((0, ()),), ((0, (1,)),),
    "", "0", "n", "n + 1", 0, 1, True, None,
]

NO_TEXTS = [
    "", " ", "\n", "00", "01", "05", "-1", "+1", "1.0", "1_0", "1e3", "0 + 1", "1 + 0", "0 + 0", "n + 0", "0 + n", "0*n",
    "0*n + 1", "1*n", "1*n^2", "2*n + 1*n", "01*n", "02*n", "00*n", "n^0", "n^1", "2*n^0", "2*n^1", "n^02", "n^-2", "n^",
    "n^n", "n^2^2", "^2", "*n", "2*", "2n", "n2", "n*2", "2*3", "2*3*n", "2**n", "n*n", "nn", "n^^2", "n**2", "2 * n",
    "n ^2", "n^ 2", "2* n", "N", "n^N", "x", "2*x", "+", " + ", "n +", "n + ", " + n", "+ n", "n+1", "n +1", "n+ 1", "n  + 1",
    "n +  1", "n + + 1", "n +  + 1", " n", "n ", "1 ", " 1", "0 ", " 0", "n\n", "\nn", "0\n", "n + 1\n", "n\n+ 1", "1 + n",
    "n + n^2", "n + n", "1 + 1", "n^2 + n^2", "n^2 + n^3", "n^3 + n + n^2", "2*n + n", "n^10 + n^11", "n^2 + n^10",
    "3*n^2 - n + 5", "3*n^2 + n + -5", "(n)", "n,1", "n 1", "n^2n", "n^1 + 1", "3*n^2 + n^1 + 5", "3*n^2 + 1*n + 5",
    "3*n^2 + n + 5 ", "3*n^2 + n + 5 + 0", "3*n^2 + n + 5 + 1", "3*n^2 + 0*n + 5", "\u0663", "\u00b2", "n^\u00b2", "n^\u0662",
    "\uff12*n", "()", "((0, 1),)",
]


class Examples(unittest.TestCase):

    def test_examples(self):
        run_examples(self, EXAMPLES)

    def test_parameters(self):
        wanted = {
            is_poly: ["thing"], is_word: ["thing"], value_at: ["poly", "number"], sum_of: ["poly", "other"],
            product_of: ["poly", "other"], poly_text: ["poly"], poly_read: ["text"],
        }
        for call, names in wanted.items():
            check_parameters(self, call, names)
            self.assertEqual(call.__module__, polys.__name__)


class IsPoly(unittest.TestCase):

    def test_polynomials(self):
        for poly in POLYS:
            check_gives(self, True, is_poly, poly)

    def test_no_polynomials(self):
        for thing in NO_POLYS:
            check_gives(self, False, is_poly, thing)

    def test_any_value(self):
        for thing in ANY_VALUES:
            check_gives(self, thing == () and isinstance(thing, tuple), is_poly, thing)

    def test_one_part_replaced(self):
        poly = ((0, 5), (1, 1), (2, 3))
        for at, within in itertools.product(range(3), range(2)):
            for wrong in ANY_VALUES + [-1, [0], (1,)]:
                if isinstance(wrong, int) and not isinstance(wrong, bool):
                    continue
                pair = poly[at][:within] + (wrong,) + poly[at][within + 1:]
                check_gives(self, False, is_poly, poly[:at] + (pair,) + poly[at + 1:])
        for at in range(3):
            for wrong in ANY_VALUES:
                check_gives(self, at == 0 and wrong == (0, 1) and repr(wrong) == "(0, 1)", is_poly,
                            poly[:at] + (wrong,) + poly[at + 1:])


class IsWord(unittest.TestCase):

    def test_words(self):
        for word in ("", "a", "z", "n", "end", "zyx", "aa", "abcdefghijklmnopqrstuvwxyz", "q" * 3000):
            check_gives(self, True, is_word, word)

    def test_no_words(self):
        for thing in ("A", "aB", "a b", " a", "a ", "a\n", "\n", "a1", "0", "_", "a_", "`", "{", "-", "\u00e4", "\u00df", "\u0430"):
            check_gives(self, False, is_word, thing)
        for thing in (None, 0, 1, True, (), ("a",), [], ["a"], ["a", "b"], {}, {"a": "b"}, ("a", "b")):
            check_gives(self, False, is_word, thing)

    def test_any_value(self):
        words = ("", "a", "z", "n", "up", "one", "end", "x" * 12, "x" * 13, "z" * 3000)
        for thing in ANY_VALUES:
            check_gives(self, isinstance(thing, str) and thing in words, is_word, thing)

    def test_every_sign(self):
        for code in range(300):
            check_gives(self, 97 <= code <= 122, is_word, "a" + chr(code))


class Values(unittest.TestCase):

    def test_values(self):
        for poly, number, value in (
                ((), 0, 0), ((), 7, 0), (((0, 5),), 0, 5), (((0, 5),), 9, 5), (((1, 1),), 0, 0), (((1, 3),), 4, 12),
                (((0, 5), (1, 1), (2, 3)), 0, 5), (((0, 5), (1, 1), (2, 3)), 1, 9), (((0, 5), (1, 1), (2, 3)), 2, 19),
                (((3, 1),), 2, 8), (((7, 2),), 3, 4374), (((12, 10 ** 12),), 10 ** 6, 10 ** 84), (((12, 1),), 1, 1)):
            check_gives(self, value, value_at, poly, number)

    def test_sums_of_powers(self):
        for poly in POLYS:
            for number in (0, 1, 2, 3, 10, 41, 10 ** 6):
                value = sum(coefficient * number ** exponent for exponent, coefficient in poly)
                check_gives(self, value, value_at, poly, number)

    def test_zero_to_the_power_zero(self):
        check_gives(self, 1, value_at, ((0, 1),), 0)
        check_gives(self, 4, value_at, ((0, 4), (12, 9)), 0)

    def test_wrong_polynomials(self):
        for wrong in NO_POLYS:
            check_raises(self, BadPoly, {"thing": wrong}, value_at, wrong, 1)
        for wrong in ANY_VALUES:
            if not is_poly(wrong):
                check_raises(self, BadPoly, {"thing": wrong}, value_at, wrong, 1)

    def test_wrong_numbers(self):
        for wrong in ANY_VALUES + [-1, -5, True, False, None, "1", (1,)]:
            if isinstance(wrong, int) and not isinstance(wrong, bool) and wrong >= 0:
                continue
            for poly in ((), ((0, 1),), ((2, 3),)):
                check_raises(self, BadNumber, {"thing": wrong}, value_at, poly, wrong)

    def test_first_wrong_argument(self):
        check_raises(self, BadPoly, {"thing": ((0, 0),)}, value_at, ((0, 0),), -1)
        check_raises(self, BadPoly, {"thing": None}, value_at, None, True)


class SumsAndProducts(unittest.TestCase):

    def test_sums(self):
        for poly, other, total in (
                ((), (), ()), (((0, 1),), (), ((0, 1),)), ((), ((3, 2),), ((3, 2),)), (((0, 1),), ((0, 2),), ((0, 3),)),
                (((2, 1),), ((0, 1),), ((0, 1), (2, 1))), (((0, 1), (5, 1)), ((3, 4), (5, 9)), ((0, 1), (3, 4), (5, 10)))):
            check_gives(self, total, sum_of, poly, other)

    def test_products(self):
        for poly, other, whole in (
                ((), (), ()), (((0, 1),), (), ()), ((), ((3, 2),), ()), (((0, 2),), ((0, 3),), ((0, 6),)),
                (((2, 3),), ((4, 5),), ((6, 15),)), (((0, 1), (1, 1)), ((0, 1), (1, 1)), ((0, 1), (1, 2), (2, 1))),
                (((0, 1), (1, 2), (3, 1)), ((2, 5),), ((2, 5), (3, 10), (5, 5)))):
            check_gives(self, whole, product_of, poly, other)

    def test_values_at_numbers(self):
        for poly, other in itertools.product(POLYS, POLYS):
            total = sum_of(poly, other)
            whole = product_of(poly, other)
            self.assertTrue(is_poly(total))
            self.assertTrue(is_poly(whole))
            self.assertEqual(total, sum_of(other, poly))
            self.assertEqual(whole, product_of(other, poly))
            for number in (0, 1, 2, 7, 10 ** 6):
                one, two = value_at(poly, number), value_at(other, number)
                self.assertEqual(value_at(total, number), one + two)
                self.assertEqual(value_at(whole, number), one * two)

    def test_wrong_arguments(self):
        for call in (sum_of, product_of):
            for wrong in NO_POLYS + [thing for thing in ANY_VALUES if not is_poly(thing)]:
                check_raises(self, BadPoly, {"thing": wrong}, call, wrong, ((0, 1),))
                check_raises(self, BadPoly, {"thing": wrong}, call, ((0, 1),), wrong)
                check_raises(self, BadPoly, {"thing": wrong}, call, (), wrong)
                check_raises(self, BadPoly, {"thing": wrong}, call, wrong, ())

    def test_first_wrong_argument(self):
        first, second = ((0, 0),), ((0, -1),)
        for call in (sum_of, product_of):
            check_raises(self, BadPoly, {"thing": first}, call, first, second)
            check_raises(self, BadPoly, {"thing": second}, call, second, first)


class Texts(unittest.TestCase):

    def test_there_and_back(self):
        for poly, text in TEXTS:
            check_gives(self, text, poly_text, poly)
            check_gives(self, poly, poly_read, text)

    def test_many_there_and_back(self):
        dice = random.Random(1)
        for _ in range(300):
            exponents = sorted(dice.sample(range(13), dice.randint(0, 13)))
            poly = tuple((exponent, dice.choice((1, 2, 10, dice.randint(1, 10 ** 12)))) for exponent in exponents)
            check_gives(self, poly, poly_read, poly_text(poly))

    def test_no_texts(self):
        for text in NO_TEXTS:
            check_raises(self, BadText, {"at": 1}, poly_read, text)

    def test_one_sign_away(self):
        texts = dict((text, poly) for poly, text in TEXTS)
        for text in list(texts):
            for near in one_sign_away(text):
                wanted = poly_of_text(near)
                if wanted is None:
                    check_raises(self, BadText, {"at": 1}, poly_read, near)
                else:
                    self.assertEqual(poly_read(near), wanted, near)

    def test_no_strings(self):
        for thing in ANY_VALUES:
            if not isinstance(thing, str):
                check_raises(self, BadText, {"at": 0}, poly_read, thing)
        for thing in (["n"], ("n",), {"n": 1}, 5, ((0, 1),), None, True):
            check_raises(self, BadText, {"at": 0}, poly_read, thing)

    def test_any_strings(self):
        for thing in ANY_VALUES:
            if isinstance(thing, str) and thing not in ("0", "n", "9" * 3000):
                check_raises(self, BadText, {"at": 1}, poly_read, thing)

    def test_very_long_numbers(self):
        self.assertEqual(poly_read("1" + "0" * 3000), ((0, 10 ** 3000),))
        check_raises(self, BadText, {"at": 1}, poly_read, "0" + "1" * 2000)
        check_raises(self, BadText, {"at": 1}, poly_read, "9" * 5000 + "x")

    def test_text_of_no_polynomial(self):
        for wrong in NO_POLYS + [thing for thing in ANY_VALUES if not is_poly(thing)]:
            check_raises(self, BadPoly, {"thing": wrong}, poly_text, wrong)


def one_sign_away(text):
    """Return the strings that come of a string by leaving out, putting in, changing or exchanging signs."""
    signs = "0123n*^+ N-_.\n"
    near = [text[:at] + text[at + 1:] for at in range(len(text))]
    near += [text[:at] + sign + text[at:] for at in range(len(text) + 1) for sign in signs]
    near += [text[:at] + sign + text[at + 1:] for at in range(len(text)) for sign in signs]
    near += [text[:at] + text[at + 1] + text[at] + text[at + 2:] for at in range(len(text) - 1)]
    return near


def poly_of_text(text):
    """Return the polynomial whose text, made as [1.3] says, is a string, None if there is none."""
    if text == "0":
        return ()
    pairs = []
    for item in text.split(" + "):
        front, _, back = item.rpartition("*") if "n" in item else (item, "", "")
        exponent = 0 if back == "" else 1 if "^" not in back else back.partition("^")[2]
        if not str(exponent).isdecimal() or not (front or "1").isdecimal():
            return None
        pairs.append((int(exponent), int(front or "1")))
    made = []
    for exponent, coefficient in sorted(pairs, reverse=True):
        front = "" if coefficient == 1 and exponent > 0 else str(coefficient) + ("*" if exponent > 0 else "")
        made.append(front + ("" if exponent == 0 else "n" if exponent == 1 else "n^" + str(exponent)))
    right = len(set(exponent for exponent, _ in pairs)) == len(pairs) and all(pair[1] > 0 for pair in pairs)
    return tuple(sorted(pairs)) if right and " + ".join(made) == text else None
