import inspect
import random
import re
import unittest
from fractions import Fraction
from itertools import permutations

from glazetold.errors import AskedError, GlazeError, NoMix, ToldError
from glazetold.mixes import Mix, is_name, mix_of
from tests.anything import THINGS

LETTERS = "abcdefghijklmnopqrstuvwxyz"
GREAT = 10 ** 40 - 1
BEYOND = 10 ** 6000


def stuffs(many):
    """So many unlike names, rising."""
    return [LETTERS[at // 26] + LETTERS[at % 26] for at in range(many)]


def pairs(many):
    return tuple((stuff, at + 1) for at, stuff in enumerate(stuffs(many)))


def is_stuff(thing):
    return type(thing) is str and re.fullmatch("[a-z]{1,8}", thing) is not None


def is_amount(thing):
    return type(thing) is int and thing > 0


def refusal(parts):
    """What the document requires: "made", or the field part."""
    if type(parts) is not tuple or len(parts) not in range(1, 61):
        return None
    told = []
    for at, pair in enumerate(parts):
        if type(pair) is not tuple or len(pair) != 2 or not is_stuff(pair[0]) or not is_amount(pair[1]):
            return at
        if pair[0] in told:
            return at
        told.append(pair[0])
    return "made"


def as_fraction(told):
    return Fraction(told[0], told[1])


class Made(unittest.TestCase):
    def assert_refused(self, parts, part):
        with self.assertRaises(NoMix) as caught:
            Mix(parts)
        self.assertEqual(caught.exception.part, part, parts)
        self.assertIs(type(caught.exception.part), type(part))


class CountTest(Made):
    def test_one_pair(self):
        self.assertEqual(Mix((("clay", 1),)).shares(), (("clay", (1, 1)),))

    def test_sixty_pairs(self):
        mix = Mix(pairs(60))
        self.assertEqual(len(mix), 60)
        self.assertEqual(mix.least(), pairs(60))

    def test_none(self):
        self.assert_refused((), None)

    def test_sixty_one_pairs(self):
        self.assert_refused(pairs(61), None)

    def test_too_many_goes_before_a_wrong_pair(self):
        self.assert_refused((None,) + pairs(60), None)
        self.assert_refused((("clay", 1),) * 61, None)

    def test_a_wrong_pair_among_sixty(self):
        self.assert_refused(pairs(59) + (("zz", 0),), 59)
        self.assert_refused(pairs(59) + (("aa", 1),), 59)


class AmountTest(Made):
    def test_amounts(self):
        for amount in (1, 2, GREAT, BEYOND):
            self.assertEqual(Mix((("clay", amount), ("flint", 1))).least(), (("clay", amount), ("flint", 1)))

    def test_wrong_amounts(self):
        for amount in (0, -1, -GREAT, True, False, None, "", "1", "clay", [1], (1,), ()):
            with self.subTest(amount=amount):
                self.assert_refused((("clay", amount),), 0)
                self.assert_refused((("flint", 1), ("clay", amount)), 1)


class StuffTest(Made):
    def test_stuffs(self):
        for stuff in ("a", "z", "clay", "abcdefgh", "stuvwxyz"):
            self.assertEqual(Mix(((stuff, 1),)).least(), ((stuff, 1),))

    def test_wrong_stuffs(self):
        wrong = ("", "abcdefghi", "a" * 2000, "Clay", "claY", "clay1", "1", "clay ", " clay", "cl ay", " ", "cl-ay",
                 "cl_ay", "`", "{", "clay\n", "clay\u00e9", None, 1, True, ["clay"], ("clay",), [], ())
        for stuff in wrong:
            with self.subTest(stuff=stuff):
                self.assert_refused(((stuff, 1),), 0)
                self.assert_refused((("flint", 1), (stuff, 1)), 1)

    def test_told_twice(self):
        self.assert_refused((("clay", 1), ("clay", 1)), 1)
        self.assert_refused((("clay", 1), ("flint", 2), ("clay", 3)), 2)
        self.assert_refused((("clay", 1), ("flint", 2), ("flint", 3), ("clay", 3)), 2)

    def test_names(self):
        for thing in THINGS:
            self.assertIs(is_name(thing), is_stuff(thing), thing)


class PairTest(Made):
    def test_no_pairs(self):
        for pair in (["clay", 1], ("clay",), ("clay", 1, 1), (), [], None, True, 1, "clay", "ab", (1, "clay")):
            with self.subTest(pair=pair):
                self.assert_refused((pair,), 0)
                self.assert_refused((("flint", 1), pair, ("clay", 0)), 1)

    def test_the_first_wrong_one_is_told(self):
        self.assert_refused((("clay", 0), ("clay", 1), None), 0)
        self.assert_refused((("clay", 1), ("clay", 1), None), 1)
        self.assert_refused((("clay", 1), None, ("clay", 1)), 1)

    def test_no_tuple(self):
        for parts in ([("clay", 1)], [], None, 0, 1, GREAT, "", "clay", "clay 1", True, False):
            with self.subTest(parts=parts):
                self.assert_refused(parts, None)

    def test_a_pair_itself_is_no_tuple_of_pairs(self):
        self.assert_refused(("clay", 1), 0)


class AnythingTest(Made):
    def assert_as_required(self, parts):
        expected = refusal(parts)
        if expected == "made":
            self.assertEqual([stuff for stuff, amount in Mix(parts).least()], sorted(stuff for stuff, amount in parts))
        else:
            self.assert_refused(parts, expected)

    def test_anything_for_all_pairs(self):
        for thing in THINGS:
            self.assert_as_required(thing)

    def test_anything_for_one_pair(self):
        for thing in THINGS:
            self.assert_as_required((thing,))
            self.assert_as_required((("flint", 2), thing, ("clay", 2)))

    def test_anything_in_a_pair(self):
        for thing in THINGS:
            for other in THINGS:
                self.assert_as_required(((thing, other),))
                self.assert_as_required((("clay", 2), (thing, other)))

    def test_the_family(self):
        with self.assertRaises(ToldError) as caught:
            Mix(None)
        self.assertIs(type(caught.exception), NoMix)
        self.assertIsInstance(caught.exception, GlazeError)
        self.assertIsInstance(caught.exception, ValueError)
        self.assertNotIsInstance(caught.exception, AskedError)

    def test_what_is_refused_is_not_changed(self):
        parts = [("clay", 1), ["flint", 2]]
        self.assert_refused(parts, None)
        self.assert_refused(tuple(parts), 1)
        self.assertEqual(parts, [("clay", 1), ["flint", 2]])


class SharesTest(unittest.TestCase):
    def test_shares_rise_by_stuffs(self):
        mix = Mix((("flint", 1), ("clay", 3), ("ash", 2)))
        self.assertEqual(mix.shares(), (("ash", (1, 3)), ("clay", (1, 2)), ("flint", (1, 6))))

    def test_a_shorter_name_goes_first(self):
        mix = Mix((("clays", 1), ("clay", 1)))
        self.assertEqual(mix.shares(), (("clay", (1, 2)), ("clays", (1, 2))))

    def test_great_amounts(self):
        mix = Mix((("flint", 1), ("clay", GREAT)))
        self.assertEqual(mix.shares(), (("clay", (GREAT, 10 ** 40)), ("flint", (1, 10 ** 40))))

    def test_shares_come_to_one(self):
        chance = random.Random(4)
        for many in (1, 2, 3, 7, 60):
            parts = tuple((stuff, chance.randint(1, 10 ** chance.randint(0, 40))) for stuff in stuffs(many))
            whole = sum(amount for stuff, amount in parts)
            shares = Mix(parts).shares()
            self.assertEqual(sum(as_fraction(share) for stuff, share in shares), 1)
            for (stuff, amount), (own, share) in zip(parts, shares, strict=True):
                expected = Fraction(amount, whole)
                self.assertEqual((own, share), (stuff, (expected.numerator, expected.denominator)))

    def test_kinds(self):
        shares = Mix((("flint", 1), ("clay", 3))).shares()
        self.assertIs(type(shares), tuple)
        for pair in shares:
            self.assertIs(type(pair), tuple)
            self.assertIs(type(pair[1]), tuple)

    def test_asked_again(self):
        mix = Mix((("flint", 1), ("clay", 3)))
        self.assertEqual(mix.shares(), mix.shares())
        self.assertEqual(mix.least(), mix.least())
        self.assertEqual(mix.weighed(), mix.weighed())

    def test_length(self):
        for many in (1, 2, 3, 60):
            self.assertEqual(len(Mix(pairs(many))), many)


class EqualTest(unittest.TestCase):
    def test_by_another_whole(self):
        mix = Mix((("clay", 3), ("flint", 1)))
        for times in (1, 2, 25, GREAT, BEYOND):
            other = Mix((("clay", 3 * times), ("flint", times)))
            self.assertTrue(mix == other)
            self.assertFalse(mix != other)

    def test_in_another_order(self):
        parts = (("clay", 3), ("flint", 1), ("ash", 2))
        for order in permutations(parts):
            self.assertTrue(Mix(order) == Mix(parts))

    def test_another_mix(self):
        mix = Mix((("clay", 3), ("flint", 1)))
        others = ((("clay", 1), ("flint", 3)), (("clay", 3), ("ash", 1)), (("clay", 3),), (("clay", 4), ("flint", 1)),
                  (("clay", 3), ("flint", 1), ("ash", 1)), (("flint", 3), ("clay", 1)))
        for parts in others:
            self.assertFalse(mix == Mix(parts))
            self.assertTrue(mix != Mix(parts))

    def test_other_things(self):
        mix = Mix((("clay", 3), ("flint", 1)))
        own = (mix.shares(), mix.least(), mix.weighed(), str(mix), len(mix), list(mix.least()), dict(mix.least()))
        for thing in THINGS + own:
            self.assertFalse(mix == thing)
            self.assertTrue(mix != thing)
            self.assertFalse(thing == mix)

    def test_equal_where_shares_are(self):
        made = [Mix((("ash", a), ("clay", b))) for a in range(1, 8) for b in range(1, 8)]
        for one in made:
            for other in made:
                self.assertIs(one == other, one.shares() == other.shares())


class ShareTest(unittest.TestCase):
    def test_each_stuff(self):
        mix = Mix((("flint", 5), ("clay", 15), ("ash", 10)))
        self.assertEqual(mix.share("ash"), (1, 3))
        self.assertEqual(mix.share("clay"), (1, 2))
        self.assertEqual(mix.share("flint"), (1, 6))
        self.assertEqual(mix.share(stuff="clay"), (1, 2))
        self.assertEqual(Mix((("clay", 7),)).share("clay"), (1, 1))

    def test_a_stuff_that_it_has_not(self):
        mix = Mix((("flint", 1), ("clay", 3)))
        for stuff in ("ash", "cla", "clays", "a", "z", "flin"):
            self.assertEqual(mix.share(stuff), (0, 1))

    def test_as_shares_tell(self):
        mix = Mix(pairs(60))
        for stuff, share in mix.shares():
            self.assertEqual(mix.share(stuff), share)


class WeighedTest(unittest.TestCase):
    def setUp(self):
        self.mix = Mix((("flint", 2), ("clay", 4), ("ash", 1)))

    def test_by_one(self):
        self.assertEqual(self.mix.weighed(1), self.mix.shares())
        self.assertEqual(self.mix.weighed(1), (("ash", (1, 7)), ("clay", (4, 7)), ("flint", (2, 7))))

    def test_by_a_hundred(self):
        hundred = (("ash", (100, 7)), ("clay", (400, 7)), ("flint", (200, 7)))
        self.assertEqual(self.mix.weighed(100), hundred)
        self.assertEqual(self.mix.weighed(), hundred)
        self.assertEqual(self.mix.weighed(whole=100), hundred)

    def test_by_seven(self):
        self.assertEqual(self.mix.weighed(7), (("ash", (1, 1)), ("clay", (4, 1)), ("flint", (2, 1))))
        self.assertEqual(self.mix.weighed(whole=14), (("ash", (2, 1)), ("clay", (8, 1)), ("flint", (4, 1))))

    def test_by_great_wholes(self):
        for whole in (GREAT, BEYOND, 7 * BEYOND):
            told = self.mix.weighed(whole)
            self.assertEqual([stuff for stuff, much in told], ["ash", "clay", "flint"])
            for (stuff, much), times in zip(told, (1, 4, 2)):
                expected = Fraction(times * whole, 7)
                self.assertEqual(much, (expected.numerator, expected.denominator))

    def test_it_comes_to_the_whole(self):
        for whole in (1, 2, 99, 100, GREAT):
            told = Mix(pairs(60)).weighed(whole)
            self.assertIs(type(told), tuple)
            self.assertEqual(sum(as_fraction(much) for stuff, much in told), whole)

    def test_the_same_by_whatever_whole_it_was_told(self):
        self.assertEqual(Mix((("ash", 10), ("clay", 40), ("flint", 20))).weighed(), self.mix.weighed())


class LeastTest(unittest.TestCase):
    def test_with_a_common_measure(self):
        self.assertEqual(Mix((("flint", 25), ("clay", 75))).least(), (("clay", 3), ("flint", 1)))
        self.assertEqual(Mix((("clay", 100),)).least(), (("clay", 1),))
        self.assertEqual(Mix((("c", 6), ("b", 10), ("a", 14))).least(), (("a", 7), ("b", 5), ("c", 3)))
        self.assertEqual(Mix((("a", BEYOND), ("b", 3 * BEYOND))).least(), (("a", 1), ("b", 3)))

    def test_without_a_common_measure(self):
        self.assertEqual(Mix((("flint", 3), ("clay", 5))).least(), (("clay", 5), ("flint", 3)))

    def test_two_with_a_measure_but_not_all(self):
        self.assertEqual(Mix((("a", 6), ("b", 10), ("c", 15))).least(), (("a", 6), ("b", 10), ("c", 15)))

    def test_it_makes_the_mix(self):
        mix = Mix((("c", 6), ("b", 10), ("a", 14)))
        self.assertIs(type(mix.least()), tuple)
        self.assertEqual(Mix(mix.least()), mix)
        self.assertEqual(Mix(mix.least()).least(), mix.least())


class TextTest(unittest.TestCase):
    def test_with_a_common_measure(self):
        self.assertEqual(str(Mix((("flint", 25), ("clay", 75)))), "clay 3, flint 1")
        self.assertEqual(str(Mix((("clay", 100),))), "clay 1")

    def test_without_a_common_measure(self):
        self.assertEqual(str(Mix((("flint", 3), ("clay", 5)))), "clay 5, flint 3")
        self.assertEqual(str(Mix((("c", 15), ("b", 10), ("a", 6)))), "a 6, b 10, c 15")

    def test_great_amounts(self):
        self.assertEqual(str(Mix((("flint", 1), ("clay", GREAT)))), "clay " + "9" * 40 + ", flint 1")

    def test_more_figures_than_python_writes_at_once(self):
        self.assertEqual(str(Mix((("flint", 1), ("clay", BEYOND)))), "clay 1" + "0" * 6000 + ", flint 1")

    def test_the_text_tells_the_mix(self):
        mix = Mix(pairs(60))
        words = [word.split(" ") for word in str(mix).split(", ")]
        self.assertEqual(Mix(tuple((stuff, int(amount)) for stuff, amount in words)), mix)


class MixOfTest(unittest.TestCase):
    def test_as_a_mix_is_made(self):
        for parts in ((("flint", 25), ("clay", 75)), (("clay", 100),), pairs(60)):
            told = mix_of(parts)
            self.assertIs(type(told), Mix)
            self.assertEqual(told, Mix(parts))
            self.assertEqual(told.shares(), Mix(parts).shares())
            self.assertEqual(told.least(), Mix(parts).least())
            self.assertEqual(str(told), str(Mix(parts)))

    def test_more_pairs_than_are_told_at_once(self):
        told = mix_of(pairs(70))
        self.assertEqual(len(told), 70)
        self.assertEqual(told.least(), pairs(70))
        self.assertEqual(sum(as_fraction(share) for stuff, share in told.shares()), 1)


class InterfaceTest(unittest.TestCase):
    def test_methods_stand_in_the_class(self):
        for name in ("shares", "share", "weighed", "least", "__eq__", "__len__", "__str__"):
            self.assertIn(name, vars(Mix))

    def test_arguments(self):
        self.assertEqual(str(inspect.signature(Mix)), "(parts)")
        self.assertEqual(str(inspect.signature(Mix.share)), "(self, stuff)")
        self.assertEqual(str(inspect.signature(Mix.weighed)), "(self, whole=100)")
        self.assertEqual(Mix(parts=(("clay", 2),)), Mix((("clay", 1),)))
