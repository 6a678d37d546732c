import inspect
import random
import unittest
from fractions import Fraction
from itertools import product

from glazetold import blends
from glazetold.blends import blend, line, place_in, place_on, triangle
from glazetold.errors import AskedError, GlazeError, NoTriangle, NoWeights, ToldError
from glazetold.mixes import Mix
from tests.made import BEYOND, GREAT, mixed

CLAY = mixed("clay 1")
FLINT = mixed("flint 1")
ASH = mixed("ash 1")
STUFFS = [one + other for one in "abcdef" for other in "abcdefghijklmnopqrst"]


def pair(number):
    """A Fraction as it is told."""
    return (number.numerator, number.denominator)


def share(mix, stuff):
    return Fraction(*mix.share(stuff))


def stuffs_of(*mixes):
    return sorted({stuff for mix in mixes for stuff, amount in mix.least()})


def blended_shares(mixes, weights):
    """The shares of a blend, as the document says them."""
    told = []
    for stuff in stuffs_of(*mixes):
        put = sum(share(mix, stuff) * weight for mix, weight in zip(mixes, weights, strict=True)) / sum(weights)
        if put > 0:
            told.append((stuff, pair(put)))
    return tuple(told)


def some_mix(chance, stuffs, most):
    many = chance.randint(1, len(stuffs))
    return Mix(tuple((stuff, chance.randint(1, most)) for stuff in chance.sample(stuffs, many)))


class BlendTest(unittest.TestCase):
    def test_one_mix(self):
        mix = mixed("clay 3, flint 1")
        for weight in (1, 2, 60, GREAT, BEYOND):
            told = blend([mix], [weight])
            self.assertIs(type(told), Mix)
            self.assertEqual(told, mix)
            self.assertEqual(told.shares(), mix.shares())

    def test_two_mixes(self):
        self.assertEqual(blend([CLAY, FLINT], [3, 1]), mixed("clay 3, flint 1"))
        self.assertEqual(blend([mixed("clay 3, flint 1"), mixed("clay 1, flint 1")], [1, 1]), mixed("clay 5, flint 3"))

    def test_by_shares_and_not_by_amounts(self):
        by_hundred = Mix((("clay", 100),))
        by_one = Mix((("flint", 1),))
        self.assertEqual(blend([by_hundred, by_one], [1, 1]), mixed("clay 1, flint 1"))
        self.assertEqual(blend([mixed("clay 1, ash 99"), mixed("clay 1")], [1, 1]), mixed("clay 101, ash 99"))

    def test_six_mixes(self):
        mixes = [mixed(f"{stuff} 1, clay 2") for stuff in ("a", "b", "c", "d", "e", "f")]
        told = blend(mixes, [1, 2, 3, 4, 5, 6])
        self.assertEqual(told, mixed("a 1, b 2, c 3, d 4, e 5, f 6, clay 42"))

    def test_weights_of_nought(self):
        self.assertEqual(blend([CLAY, FLINT], [0, 5]), FLINT)
        self.assertEqual(blend([CLAY, FLINT], [5, 0]), CLAY)
        told = blend([CLAY, FLINT, ASH], [1, 0, 1])
        self.assertEqual(told, mixed("ash 1, clay 1"))
        self.assertEqual(len(told), 2)
        self.assertEqual(told.share("flint"), (0, 1))
        self.assertEqual(blend([CLAY] * 5 + [ASH], [0, 0, 0, 0, 0, 1]), ASH)

    def test_great_weights(self):
        told = blend([CLAY, FLINT], [GREAT, 1])
        self.assertEqual(told.shares(), (("clay", (GREAT, 10 ** 40)), ("flint", (1, 10 ** 40))))
        self.assertEqual(blend([CLAY, FLINT], [BEYOND, BEYOND]), mixed("clay 1, flint 1"))

    def test_weights_with_a_common_measure(self):
        mixes = [mixed("clay 2, ash 5"), mixed("clay 1, flint 3")]
        self.assertEqual(blend(mixes, [2, 6]), blend(mixes, [1, 3]))
        self.assertEqual(blend(mixes, [2 * GREAT, 6 * GREAT]), blend(mixes, [1, 3]))

    def test_the_same_mix_more_than_once(self):
        self.assertEqual(blend([CLAY, FLINT, CLAY], [1, 1, 1]), mixed("clay 2, flint 1"))

    def test_sixty_stuffs(self):
        mixes = [Mix(tuple((stuff, 1) for stuff in STUFFS[at:at + 10])) for at in range(0, 60, 10)]
        self.assertEqual(blend(mixes, [1] * 6), Mix(tuple((stuff, 1) for stuff in STUFFS[:60])))

    def test_by_chance(self):
        chance = random.Random(6)
        for many in (1, 2, 3, 4, 5, 6) * 20:
            most = 10 ** chance.randint(0, 40)
            mixes = [some_mix(chance, STUFFS[:8], most) for at in range(many)]
            weights = [chance.randint(0, 5) for at in range(many - 1)] + [chance.randint(1, most)]
            self.assertEqual(blend(mixes, weights).shares(), blended_shares(mixes, weights))

    def test_what_was_told_is_handed_in_again(self):
        mix = mixed("clay 3, flint 1")
        for at in range(40):
            mix = blend([mix, mixed(f"clay {at + 2}, ash 7, flint {at + 9}")], [GREAT, GREAT - at - 1])
        self.assertEqual(sum(Fraction(*part) for stuff, part in mix.shares()), 1)
        self.assertEqual(blend([mix], [1]), mix)
        self.assertEqual(place_on(mix, CLAY, blend([mix, CLAY], [2, 1])), (1, 3))

    def test_beyond_the_bounds_it_is_not_refused(self):
        self.assertEqual(blend([CLAY, FLINT, ASH] * 3, [1] * 9), mixed("ash 1, clay 1, flint 1"))
        told = blend([Mix(tuple((stuff, 1) for stuff in STUFFS[at:at + 40])) for at in (0, 40)], [1, 1])
        self.assertEqual(told.shares(), tuple((stuff, (1, 80)) for stuff in STUFFS[:80]))


class WeightsTest(unittest.TestCase):
    def assert_refused(self, mixes, weights):
        kept = (list(mixes), list(weights))
        with self.assertRaises(NoWeights):
            blend(mixes, weights)
        self.assertEqual((mixes, weights), kept)

    def test_too_few(self):
        self.assert_refused([CLAY, FLINT], [1])
        self.assert_refused([CLAY], [])
        self.assert_refused([CLAY] * 6, [1] * 5)
        self.assert_refused([CLAY, FLINT], [])

    def test_too_many(self):
        self.assert_refused([CLAY], [1, 1])
        self.assert_refused([CLAY], [1, 0])
        self.assert_refused([CLAY] * 6, [1] * 7)
        self.assert_refused([CLAY, FLINT], [1] * 60)

    def test_one_below_nought(self):
        for weights in ([-1, 2], [2, -1], [-1, 1], [-1, -1], [GREAT, -GREAT], [-GREAT, 1], [0, -1], [-1, 0]):
            self.assert_refused([CLAY, FLINT], weights)
        self.assert_refused([CLAY], [-1])
        self.assert_refused([CLAY] * 6, [1, 1, 1, 1, 1, -1])

    def test_all_nought(self):
        for many in range(1, 7):
            self.assert_refused([CLAY] * many, [0] * many)

    def test_several_wrongs_at_once(self):
        self.assert_refused([CLAY, FLINT], [-1])
        self.assert_refused([CLAY, FLINT], [0, 0, 0])
        self.assert_refused([CLAY, FLINT], [-1, -1, 3])

    def test_every_short_list(self):
        for many in range(5):
            for weights in product((-2, -1, 0, 1, 2), repeat=many):
                if many == 2 and min(weights) >= 0 and max(weights) > 0:
                    self.assertEqual(blend([CLAY, FLINT], list(weights)).shares(),
                                     blended_shares([CLAY, FLINT], weights))
                else:
                    self.assert_refused([CLAY, FLINT], list(weights))

    def test_the_family(self):
        with self.assertRaises(AskedError) as caught:
            blend([CLAY], [])
        self.assertIs(type(caught.exception), NoWeights)
        self.assertIsInstance(caught.exception, GlazeError)
        self.assertIsInstance(caught.exception, ValueError)
        self.assertNotIsInstance(caught.exception, ToldError)

    def test_lists_handed_in_stay(self):
        mixes, weights = [CLAY, FLINT, ASH], [1, 0, 2]
        told = blend(mixes, weights)
        self.assertEqual((mixes, weights), ([CLAY, FLINT, ASH], [1, 0, 2]))
        mixes[0], weights[0] = ASH, 9
        self.assertEqual(told, mixed("ash 2, clay 1"))
        self.assertEqual([CLAY, FLINT, ASH], [mixed("clay 1"), mixed("flint 1"), mixed("ash 1")])


class LineTest(unittest.TestCase):
    def setUp(self):
        self.one = mixed("clay 3, flint 1")
        self.other = mixed("clay 1, ash 4")

    def test_four_steps(self):
        expected = [mixed("clay 1"), mixed("clay 3, flint 1"), mixed("clay 1, flint 1"), mixed("clay 1, flint 3"),
                    mixed("flint 1")]
        self.assertEqual(line(CLAY, FLINT), expected)
        self.assertEqual(line(CLAY, FLINT, 4), expected)
        self.assertEqual(line(CLAY, FLINT, steps=4), expected)
        self.assertEqual(line(steps=4, other=FLINT, one=CLAY), expected)

    def test_one_step(self):
        self.assertEqual(line(self.one, self.other, 1), [self.one, self.other])

    def test_each_is_the_blend(self):
        for steps in (1, 2, 3, 7, 60):
            told = line(self.one, self.other, steps)
            self.assertIs(type(told), list)
            self.assertEqual(len(told), steps + 1)
            for at, mix in enumerate(told):
                self.assertIs(type(mix), Mix)
                self.assertEqual(mix.shares(), blended_shares([self.one, self.other], [steps - at, at]))
                self.assertEqual(mix, blend([self.one, self.other], [steps - at, at]))

    def test_both_ends(self):
        for steps in (1, 4, 60):
            told = line(self.one, self.other, steps)
            self.assertEqual((told[0], told[-1]), (self.one, self.other))

    def test_turned_about(self):
        for steps in (1, 2, 4, 60):
            self.assertEqual(line(self.other, self.one, steps), line(self.one, self.other, steps)[::-1])

    def test_the_list_is_the_askers_own(self):
        told = line(self.one, self.other)
        told.clear()
        self.assertEqual(len(line(self.one, self.other)), 5)

    def test_beyond_the_bounds_it_is_not_refused(self):
        self.assertEqual(len(line(self.one, self.other, 61)), 62)


class TriangleTest(unittest.TestCase):
    def setUp(self):
        self.corners = [mixed("clay 3, flint 1"), mixed("clay 1, ash 4"), mixed("flint 2, ash 1, bone 5")]

    def test_three_steps(self):
        expected = [(0, 0, 3), (0, 1, 2), (0, 2, 1), (0, 3, 0), (1, 0, 2), (1, 1, 1), (1, 2, 0), (2, 0, 1), (2, 1, 0),
                    (3, 0, 0)]
        one, two, three = self.corners
        for told in (triangle(one, two, three), triangle(one, two, three, 3), triangle(one, two, three, steps=3),
                     triangle(steps=3, three=three, two=two, one=one)):
            self.assertEqual([weights for weights, mix in told], expected)

    def test_one_step(self):
        told = triangle(CLAY, FLINT, ASH, 1)
        self.assertEqual(told, [((0, 0, 1), ASH), ((0, 1, 0), FLINT), ((1, 0, 0), CLAY)])

    def test_each_is_the_blend(self):
        for steps in (1, 2, 3, 8, 20):
            told = triangle(*self.corners, steps)
            expected = sorted(some for some in product(range(steps + 1), repeat=3) if sum(some) == steps)
            self.assertIs(type(told), list)
            self.assertEqual([weights for weights, mix in told], expected)
            for row in told:
                self.assertIs(type(row), tuple)
                weights, mix = row
                self.assertIs(type(weights), tuple)
                self.assertIs(type(mix), Mix)
                self.assertEqual(mix.shares(), blended_shares(self.corners, weights))

    def test_the_rim_is_the_lines(self):
        one, two, three = self.corners
        for steps in (1, 3, 20):
            told = triangle(one, two, three, steps)
            self.assertEqual([mix for weights, mix in told if weights[0] == 0], line(three, two, steps))
            self.assertEqual([mix for weights, mix in told if weights[1] == 0], line(three, one, steps))
            self.assertEqual([mix for weights, mix in told if weights[2] == 0], line(two, one, steps))

    def test_the_list_is_the_askers_own(self):
        told = triangle(CLAY, FLINT, ASH)
        told.clear()
        self.assertEqual(len(triangle(CLAY, FLINT, ASH)), 10)

    def test_beyond_the_bounds_it_is_not_refused(self):
        self.assertEqual(len(triangle(CLAY, FLINT, ASH, 21)), 253)


class PlaceOnTest(unittest.TestCase):
    def setUp(self):
        self.one = mixed("clay 3, flint 1")
        self.other = mixed("clay 1, ash 4")

    def test_each_end(self):
        self.assertEqual(place_on(self.one, self.other, self.one), (0, 1))
        self.assertEqual(place_on(self.one, self.other, self.other), (1, 1))
        self.assertEqual(place_on(one=CLAY, other=FLINT, mix=mixed("flint 9")), (1, 1))

    def test_between(self):
        for one, other in ((self.one, self.other), (self.other, self.one), (CLAY, FLINT),
                           (mixed("clay 1, flint 1"), CLAY), (mixed("a 1, b 2, c 3"), mixed("a 3, b 2, c 1"))):
            for steps in (1, 2, 3, 12, 60):
                for at, mix in enumerate(line(one, other, steps)):
                    told = place_on(one, other, mix)
                    self.assertEqual(told, pair(Fraction(at, steps)))
                    self.assertEqual((type(told), type(told[0]), type(told[1])), (tuple, int, int))

    def test_by_great_weights(self):
        for one, other in ((1, GREAT), (GREAT, 1), (GREAT, GREAT - 1), (BEYOND, BEYOND + 1)):
            mix = blend([self.one, self.other], [one, other])
            self.assertEqual(place_on(self.one, self.other, mix), pair(Fraction(other, one + other)))

    def test_turned_about(self):
        for mix in line(self.one, self.other, 7):
            top, bottom = place_on(self.one, self.other, mix)
            self.assertEqual(place_on(self.other, self.one, mix), pair(1 - Fraction(top, bottom)))

    def test_off_the_line(self):
        for text in ("clay 4, flint 1, ash 3", "clay 1, flint 1, ash 1", "ash 1", "flint 1, ash 1"):
            self.assertIsNone(place_on(self.one, self.other, mixed(text)))
        near = blend([self.one, self.other, FLINT], [GREAT, GREAT, 1])
        self.assertIsNone(place_on(self.one, self.other, near))

    def test_beyond_an_end(self):
        one, other = mixed("clay 2, flint 1"), mixed("clay 1, flint 2")
        for text in ("clay 1", "flint 1", "clay 3, flint 1", "clay 1, flint 3"):
            self.assertIsNone(place_on(one, other, mixed(text)))
        beyond = Mix((("clay", 2 * GREAT + 1), ("flint", GREAT - 1)))
        self.assertIsNone(place_on(one, other, beyond))

    def test_a_stuff_more(self):
        middle = blend([self.one, self.other], [1, 1])
        self.assertIsNone(place_on(self.one, self.other, Mix(middle.least() + (("bone", 1),))))
        self.assertIsNone(place_on(CLAY, FLINT, mixed("clay 1, flint 1, ash 1")))
        self.assertIsNone(place_on(CLAY, FLINT, ASH))

    def test_a_stuff_less(self):
        middle = blend([self.one, self.other], [1, 1])
        for at in range(len(middle)):
            least = middle.least()
            self.assertIsNone(place_on(self.one, self.other, Mix(least[:at] + least[at + 1:])))

    def test_stuffs_that_stay_on_the_whole_line(self):
        one, other = mixed("ash 1, clay 1"), mixed("ash 1, flint 1")
        self.assertEqual(place_on(one, other, mixed("ash 2, clay 1, flint 1")), (1, 2))
        self.assertIsNone(place_on(one, other, mixed("ash 1, clay 1, flint 1")))

    def test_all_small_mixes(self):
        small = [Mix(tuple(part for part in zip("abc", some) if part[1]))
                 for some in product(range(5), repeat=3) if sum(some) == 4]
        for one, other in product(small, repeat=2):
            for mix in small:
                if one != other:
                    self.assertEqual(place_on(one, other, mix), self.required(one, other, mix))

    def required(self, one, other, mix):
        """By trying all fractions at which the shares of some stuff fit."""
        fits = set()
        for stuff in "abc":
            way = share(other, stuff) - share(one, stuff)
            if way != 0:
                fits.add((share(mix, stuff) - share(one, stuff)) / way)
        found = [fit for fit in fits if 0 <= fit <= 1 and all(
            share(one, stuff) * (1 - fit) + share(other, stuff) * fit == share(mix, stuff) for stuff in "abc")]
        return pair(found[0]) if found else None


class PlaceInTest(unittest.TestCase):
    def setUp(self):
        self.corners = (mixed("clay 3, flint 1"), mixed("clay 1, ash 4"), mixed("flint 2, ash 1, bone 5"))

    def test_corners(self):
        one, two, three = self.corners
        self.assertEqual(place_in(one, two, three, one), ((1, 1), (0, 1), (0, 1)))
        self.assertEqual(place_in(one, two, three, two), ((0, 1), (1, 1), (0, 1)))
        self.assertEqual(place_in(one, two, three, three), ((0, 1), (0, 1), (1, 1)))
        self.assertEqual(place_in(one=CLAY, two=FLINT, three=ASH, mix=mixed("ash 7")), ((0, 1), (0, 1), (1, 1)))

    def test_rims_and_the_inside(self):
        for corners in (self.corners, self.corners[::-1], (CLAY, FLINT, ASH),
                        (mixed("a 1, b 1, c 1"), mixed("a 3, b 1, c 1"), mixed("a 1, b 1, c 9"))):
            for steps in (1, 2, 3, 6):
                for weights, mix in triangle(*corners, steps):
                    told = place_in(*corners, mix)
                    self.assertEqual(told, tuple(pair(Fraction(weight, steps)) for weight in weights))
                    self.assertIs(type(told), tuple)

    def test_by_great_weights(self):
        for weights in ((1, GREAT, 2), (GREAT, 0, 1), (GREAT, GREAT - 1, GREAT - 2), (BEYOND, 1, BEYOND)):
            mix = blend(list(self.corners), list(weights))
            expected = tuple(pair(Fraction(weight, sum(weights))) for weight in weights)
            self.assertEqual(place_in(*self.corners, mix), expected)

    def test_outside_but_on_the_plane(self):
        corners = (mixed("clay 4, flint 1, ash 1"), mixed("clay 1, flint 4, ash 1"), mixed("clay 1, flint 1, ash 4"))
        for text in ("clay 1", "flint 1", "ash 1", "clay 1, flint 1", "clay 5, flint 5, ash 1", "clay 9, flint 1, ash 1"):
            self.assertIsNone(place_in(*corners, mixed(text)))

    def test_off_the_plane(self):
        middle = blend(list(self.corners), [1, 1, 1])
        near = blend([middle, CLAY], [GREAT, 1])
        self.assertIsNone(place_in(*self.corners, near))
        self.assertIsNone(place_in(CLAY, FLINT, ASH, mixed("clay 1, flint 1, ash 1, bone 1")))
        self.assertIsNone(place_in(CLAY, FLINT, ASH, mixed("bone 1")))

    def assert_no_triangle(self, one, two, three):
        for mix in (one, two, three, blend([one, two, three], [1, 1, 1]), mixed("bone 1"), mixed("clay 1, zinc 3")):
            with self.assertRaises(NoTriangle):
                place_in(one, two, three, mix)

    def test_two_corners_alike(self):
        for one, other in ((CLAY, FLINT), self.corners[:2], self.corners[1:]):
            again = Mix(tuple((stuff, 7 * amount) for stuff, amount in one.least()))
            self.assert_no_triangle(one, again, other)
            self.assert_no_triangle(one, other, again)
            self.assert_no_triangle(other, one, again)
        self.assert_no_triangle(CLAY, CLAY, CLAY)

    def test_all_three_on_a_line(self):
        for one, other in ((CLAY, FLINT), self.corners[:2], self.corners[1:]):
            for between in line(one, other, 5)[1:-1]:
                self.assert_no_triangle(one, other, between)
                self.assert_no_triangle(one, between, other)
                self.assert_no_triangle(between, one, other)

    def test_nearly_on_a_line(self):
        near = blend([CLAY, FLINT, ASH], [GREAT, GREAT, 1])
        self.assertEqual(place_in(CLAY, FLINT, near, near), ((0, 1), (0, 1), (1, 1)))

    def test_the_family(self):
        with self.assertRaises(AskedError) as caught:
            place_in(CLAY, CLAY, FLINT, ASH)
        self.assertIs(type(caught.exception), NoTriangle)
        self.assertIsInstance(caught.exception, GlazeError)
        self.assertNotIsInstance(caught.exception, ToldError)

    def test_all_small_mixes(self):
        small = [some for some in product(range(4), repeat=3) if sum(some) == 3]
        made = {some: Mix(tuple(part for part in zip("abc", some) if part[1])) for some in small}
        for corners in product(small, repeat=3):
            for some in small:
                asked = [made[corner] for corner in corners] + [made[some]]
                expected = self.required(corners, some)
                if expected == "refused":
                    with self.assertRaises(NoTriangle):
                        place_in(*asked)
                else:
                    self.assertEqual(place_in(*asked), expected)

    def required(self, corners, some):
        """By determinants over three stuffs, which three mixes on a line, or alike, have as nought."""
        whole = self.determinant(corners)
        if whole == 0:
            return "refused"
        told = [Fraction(self.determinant(corners[:at] + (some,) + corners[at + 1:]), whole) for at in range(3)]
        return tuple(pair(part) for part in told) if min(told) >= 0 else None

    def determinant(self, rows):
        (a, b, c), (d, e, f), (g, h, i) = rows
        return a * (e * i - f * h) - b * (d * i - f * g) + c * (d * h - e * g)


class InterfaceTest(unittest.TestCase):
    def test_arguments(self):
        expected = {"blend": "(mixes, weights)", "line": "(one, other, steps=4)",
                    "triangle": "(one, two, three, steps=3)", "place_on": "(one, other, mix)",
                    "place_in": "(one, two, three, mix)"}
        for name, arguments in expected.items():
            self.assertEqual(str(inspect.signature(getattr(blends, name))), arguments, name)
        self.assertEqual(blend(weights=[1], mixes=[CLAY]), CLAY)
