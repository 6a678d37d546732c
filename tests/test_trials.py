import inspect
import random
import unittest
from itertools import product

from glazetold import trials as module
from glazetold.errors import AskedError, GlazeError, NoTrial, ToldError
from glazetold.mixes import Mix
from glazetold.trials import Trial, bag_of, pairs, parts, unlike
from tests.anything import THINGS
from tests.made import FIELDS, GREAT, mixed, parts_of, trial

NAMES = ("house", "fire", "place", "look")
BOUNDS = {"number": (1, 10 ** 6), "day": (0, 10 ** 6), "measure": (0, 1000)}
CHECKED = ("house", "number", "day", "fire", "place", "look", "measure")


def is_right(field, thing):
    """Whether the document takes the thing in this field."""
    if field in NAMES:
        return type(thing) is str and 1 <= len(thing) <= 8 and set(thing) <= set("abcdefghijklmnopqrstuvwxyz")
    least, most = BOUNDS[field]
    return type(thing) is int and least <= thing <= most


class Made(unittest.TestCase):
    def assert_refused(self, word, **told):
        with self.assertRaises(NoTrial) as caught:
            trial(**told)
        self.assertEqual(caught.exception.word, word, told)


class FieldTest(Made):
    def test_by_place(self):
        mix = mixed("clay 3, flint 1")
        made = Trial("north", 7, 20, mix, "hot", "top", "glossy", 55)
        self.assertEqual([getattr(made, field) for field in FIELDS],
                         ["north", 7, 20, mix, "hot", "top", "glossy", 55])

    def test_by_name(self):
        told = parts_of(house="south", measure=1)
        made = Trial(**dict(reversed(told.items())))
        self.assertEqual({field: getattr(made, field) for field in FIELDS}, told)

    def test_the_mix_is_the_told_one(self):
        mix = mixed("clay 75, flint 25")
        made = trial(mix=mix)
        self.assertIs(type(made.mix), Mix)
        self.assertEqual(made.mix.shares(), (("clay", (3, 4)), ("flint", (1, 4))))
        self.assertEqual(mix, mixed("clay 3, flint 1"))

    def test_what_is_handed_in_is_kept_as_a_copy(self):
        mix = mixed("clay 3, flint 1")
        self.assertIsNot(trial(mix=mix).mix, mix)

    def test_bounds(self):
        for field, (least, most) in BOUNDS.items():
            for number in (least, least + 1, most - 1, most):
                made = trial(**{field: number})
                self.assertEqual(getattr(made, field), number)
            for number in (least - 1, most + 1, -1, -GREAT, GREAT):
                self.assert_refused(field, **{field: number})

    def test_names(self):
        for field in NAMES:
            for name in ("a", "z", "hot", "abcdefgh", "stuvwxyz"):
                self.assertEqual(getattr(trial(**{field: name}), field), name)
            for name in ("", "abcdefghi", "a" * 2000, "Hot", "hoT", "h1", "1", "hot ", " hot", "h ot", " ", "h-ot",
                         "h_ot", "`", "{", "~", "hot\n", "h\u00e9"):
                self.assert_refused(field, **{field: name})

    def test_numbers_in_the_place_of_names_and_names_in_the_place_of_numbers(self):
        for field in NAMES:
            for thing in (0, 1, 5, True, False, None, [], ["hot"], (), ("hot",)):
                self.assert_refused(field, **{field: thing})
        for field in BOUNDS:
            for thing in ("", "1", "hot", True, False, None, [], [1], (), (1,)):
                self.assert_refused(field, **{field: thing})

    def test_anything(self):
        for field in CHECKED:
            for thing in THINGS:
                with self.subTest(field=field, thing=thing):
                    if is_right(field, thing):
                        self.assertEqual(getattr(trial(**{field: thing}), field), thing)
                    else:
                        self.assert_refused(field, **{field: thing})

    def test_two_parts_wrong_at_once(self):
        for at, first in enumerate(CHECKED):
            for second in CHECKED[at + 1:]:
                self.assert_refused(first, **{first: None, second: None})
                self.assert_refused(first, **{first: [], second: True})

    def test_all_parts_wrong_at_once(self):
        for at, first in enumerate(CHECKED):
            self.assert_refused(first, **{field: () for field in CHECKED[at:]})

    def test_the_family(self):
        with self.assertRaises(ToldError) as caught:
            trial(house="")
        self.assertIs(type(caught.exception), NoTrial)
        self.assertIsInstance(caught.exception, GlazeError)
        self.assertIsInstance(caught.exception, ValueError)
        self.assertNotIsInstance(caught.exception, AskedError)


class EqualTest(unittest.TestCase):
    def test_alike(self):
        self.assertTrue(trial() == trial())
        self.assertFalse(trial() != trial())

    def test_the_same_mix_by_another_whole(self):
        self.assertTrue(trial(mix=mixed("clay 3, flint 1")) == trial(mix=mixed("flint 25, clay 75")))

    def test_part_by_part(self):
        other = {"house": "south", "number": 2, "day": 11, "mix": mixed("clay 3, flint 2"), "fire": "cold",
                 "place": "floor", "look": "matt", "measure": 51}
        self.assertEqual(sorted(other), sorted(FIELDS))
        for field, thing in other.items():
            self.assertFalse(trial() == trial(**{field: thing}), field)
            self.assertTrue(trial() != trial(**{field: thing}), field)
            self.assertTrue(trial(**{field: thing}) == trial(**{field: thing}), field)

    def test_parts_in_another_place(self):
        self.assertFalse(trial(fire="hot", place="top") == trial(fire="top", place="hot"))
        self.assertFalse(trial(number=1, day=2) == trial(number=2, day=1))

    def test_other_things(self):
        made = trial()
        own = tuple(parts_of().values())
        for thing in THINGS + own + (own, list(own), parts_of()):
            self.assertFalse(made == thing)
            self.assertTrue(made != thing)
            self.assertFalse(thing == made)


class BagTest(unittest.TestCase):
    BAGS = (("clay", 20), ("flint", 5), ("clay", 10), ("clay", 0))

    def test_no_bags(self):
        for day in (0, 5, 10 ** 6):
            self.assertEqual(bag_of((), "clay", day), 0)

    def test_several_days_of_one_stuff(self):
        for day, bag in ((0, 1), (1, 1), (9, 1), (10, 2), (11, 2), (19, 2), (20, 3), (21, 3), (10 ** 6, 3)):
            self.assertEqual(bag_of(self.BAGS, "clay", day), bag, day)

    def test_the_very_day_and_the_day_ahead(self):
        self.assertEqual(bag_of(self.BAGS, "flint", 4), 0)
        self.assertEqual(bag_of(self.BAGS, "flint", 5), 1)
        self.assertEqual(bag_of((("clay", 10 ** 6),), "clay", 10 ** 6 - 1), 0)
        self.assertEqual(bag_of((("clay", 10 ** 6),), "clay", 10 ** 6), 1)

    def test_another_stuff(self):
        for stuff in ("ash", "cla", "clays"):
            self.assertEqual(bag_of(self.BAGS, stuff, 100), 0)

    def test_by_name(self):
        self.assertEqual(bag_of(day=10, stuff="clay", bags=self.BAGS), 2)

    def test_sixty_bags(self):
        bags = tuple(("clay", 2 * at) for at in range(60))
        for day in range(120):
            self.assertEqual(bag_of(bags, "clay", day), day // 2 + 1)


class PartsTest(unittest.TestCase):
    def setUp(self):
        self.bags = (("clay", 20), ("flint", 5), ("clay", 10), ("clay", 30))
        both, clay, flint = mixed("clay 3, flint 1"), mixed("clay 1"), mixed("flint 1")
        told = ((25, both), (4, clay), (9, flint), (10, clay), (5, both), (4, flint), (20, clay), (19, both))
        self.trials = [trial(number=at + 1, day=day, mix=mix) for at, (day, mix) in enumerate(told)]

    def test_parts(self):
        self.assertEqual(parts(self.trials, self.bags, "clay"), [(0, [1, 4]), (1, [3, 7]), (2, [0, 6])])
        self.assertEqual(parts(self.trials, self.bags, "flint"), [(0, [5]), (1, [0, 2, 4, 7])])
        self.assertEqual(parts(stuff="flint", bags=self.bags, trials=self.trials), [(0, [5]), (1, [0, 2, 4, 7])])

    def test_no_bags(self):
        self.assertEqual(parts(self.trials, (), "clay"), [(0, [0, 1, 3, 4, 6, 7])])

    def test_no_trials(self):
        self.assertEqual(parts([], self.bags, "clay"), [])

    def test_a_stuff_that_no_trial_has(self):
        self.assertEqual(parts(self.trials, self.bags + (("ash", 1),), "ash"), [])
        self.assertEqual(parts(self.trials, self.bags, "cla"), [])

    def test_bags_without_trials_are_left_out(self):
        told = [self.trials[0], self.trials[1]]
        self.assertEqual(parts(told, self.bags, "clay"), [(0, [1]), (2, [0])])

    def test_ten_bags_rise_as_numbers(self):
        bags = tuple(("clay", at) for at in range(1, 13))
        told = [trial(day=day) for day in (12, 2, 10, 1)]
        self.assertEqual(parts(told, bags, "clay"), [(1, [3]), (2, [1]), (10, [2]), (12, [0])])

    def test_kinds(self):
        told = parts(self.trials, self.bags, "clay")
        self.assertIs(type(told), list)
        for row in told:
            self.assertEqual((type(row), type(row[0]), type(row[1])), (tuple, int, list))

    def test_lists_are_the_askers_own(self):
        told = parts(self.trials, self.bags, "clay")
        told[0][1].clear()
        told.clear()
        self.assertEqual(parts(self.trials, self.bags, "clay"), [(0, [1, 4]), (1, [3, 7]), (2, [0, 6])])
        self.assertEqual(len(self.trials), 8)


class UnlikeTest(unittest.TestCase):
    def test_alike_in_all(self):
        self.assertEqual(unlike((), trial(), trial()), [])

    def test_what_is_no_thing(self):
        for told in ({"house": "south"}, {"number": 2}, {"day": 11}, {"look": "matt"}, {"measure": 51}):
            self.assertEqual(unlike((), trial(), trial(**told)), [])

    def test_one_thing(self):
        self.assertEqual(unlike((), trial(), trial(mix=mixed("clay 1"))), ["mix"])
        self.assertEqual(unlike((), trial(), trial(fire="cold")), ["fire"])
        self.assertEqual(unlike((), trial(), trial(place="floor")), ["place"])
        self.assertEqual(unlike((("clay", 11),), trial(day=10), trial(day=11)), ["bag clay"])

    def test_the_same_mix_by_another_whole(self):
        self.assertEqual(unlike((), trial(), trial(mix=mixed("clay 75, flint 25"))), [])

    def test_all_things_in_their_order(self):
        bags = (("flint", 11), ("clay", 11), ("bone", 11), ("ash", 11))
        one = trial(day=10, mix=mixed("flint 1, clay 1, bone 1"))
        other = trial(day=11, mix=mixed("flint 1, clay 2, ash 1"), fire="cold", place="floor")
        expected = ["mix", "fire", "place", "bag clay", "bag flint"]
        self.assertEqual(unlike(bags, one, other), expected)
        self.assertEqual(unlike(bags, other, one), expected)
        self.assertEqual(unlike(other=other, one=one, bags=bags), expected)

    def test_a_bag_that_only_one_has(self):
        bags = (("ash", 11), ("flint", 11))
        self.assertEqual(unlike(bags, trial(day=10, mix=mixed("clay 1, flint 1")),
                                trial(day=11, mix=mixed("clay 1, ash 1"))), ["mix"])

    def test_bags_between_and_beside_the_days(self):
        for since, expected in ((9, []), (10, []), (11, ["bag clay"]), (20, ["bag clay"]), (21, [])):
            self.assertEqual(unlike((("clay", since),), trial(day=10), trial(day=20)), expected)
        self.assertEqual(unlike((("clay", 12), ("clay", 15)), trial(day=10), trial(day=20)), ["bag clay"])

    def test_the_list_is_the_askers_own(self):
        one, other = trial(), trial(fire="cold")
        unlike((), one, other).append("more")
        self.assertEqual(unlike((), one, other), ["fire"])


def required_unlike(bags, one, other):
    told = [thing for thing in ("mix", "fire", "place") if getattr(one, thing) != getattr(other, thing)]
    for stuff in sorted({stuff for stuff, amount in one.mix.least()} & {stuff for stuff, amount in other.mix.least()}):
        days = [day for own, day in bags if own == stuff]
        if sum(day <= one.day for day in days) != sum(day <= other.day for day in days):
            told.append("bag " + stuff)
    return told


def some_trials(chance, many):
    mixes = [mixed("clay 1"), mixed("clay 1, flint 1"), mixed("flint 1, ash 2")]
    return [trial(number=at + 1, day=chance.randint(0, 4), mix=chance.choice(mixes), fire=chance.choice(("hot", "cold")),
                  place=chance.choice(("top", "floor")), measure=chance.randint(0, 3)) for at in range(many)]


class PairsTest(unittest.TestCase):
    def setUp(self):
        self.trials = [trial(), trial(fire="cold"), trial(place="floor"), trial(number=2),
                       trial(day=20, fire="cold"), trial(mix=mixed("clay 1"))]

    def test_without_bags(self):
        expected = [(0, 1, "fire"), (0, 2, "place"), (0, 4, "fire"), (0, 5, "mix"), (1, 3, "fire"), (2, 3, "place"),
                    (3, 4, "fire"), (3, 5, "mix")]
        for told in (pairs(self.trials), pairs(self.trials, None), pairs(self.trials, bags=None),
                     pairs(self.trials, ()), pairs(self.trials, bags=()), pairs(trials=self.trials)):
            self.assertEqual(told, expected)

    def test_with_bags(self):
        bags = (("clay", 15),)
        expected = [(0, 1, "fire"), (0, 2, "place"), (0, 5, "mix"), (1, 3, "fire"), (1, 4, "bag clay"),
                    (2, 3, "place"), (3, 5, "mix")]
        self.assertEqual(pairs(self.trials, bags), expected)
        self.assertEqual(pairs(self.trials, bags=bags), expected)

    def test_two_bags_at_once_are_two_things(self):
        told = [trial(day=10), trial(day=20)]
        self.assertEqual(pairs(told, (("clay", 15),)), [(0, 1, "bag clay")])
        self.assertEqual(pairs(told, (("clay", 15), ("flint", 15))), [])
        self.assertEqual(pairs(told, (("clay", 15), ("clay", 16))), [(0, 1, "bag clay")])
        self.assertEqual(pairs(told, (("ash", 15),)), [])

    def test_a_bag_that_both_have_and_one_that_only_one_has(self):
        told = [trial(day=10, mix=mixed("clay 1, flint 1")), trial(day=20, mix=mixed("clay 1, ash 1"))]
        self.assertEqual(pairs(told, (("ash", 15), ("flint", 15))), [(0, 1, "mix")])
        self.assertEqual(pairs(told, (("clay", 15),)), [])

    def test_empty_and_short_lists(self):
        self.assertEqual(pairs([]), [])
        self.assertEqual(pairs([], (("clay", 1),)), [])
        self.assertEqual(pairs([trial()]), [])
        self.assertEqual(pairs([trial(), trial()]), [])

    def test_by_chance(self):
        chance = random.Random(11)
        for many in (2, 5, 12, 12, 12, 30):
            told = some_trials(chance, many)
            bags = tuple(some for some in product(("clay", "flint", "ash"), range(6)) if chance.random() < 0.2)
            expected = []
            for one, other in product(range(many), repeat=2):
                self.assertEqual(unlike(bags, told[one], told[other]), required_unlike(bags, told[one], told[other]))
                things = required_unlike(bags, told[one], told[other])
                if one < other and len(things) == 1:
                    expected.append((one, other, things[0]))
            self.assertEqual(pairs(told, bags), expected)

    def test_kinds(self):
        told = pairs(self.trials)
        self.assertIs(type(told), list)
        for row in told:
            self.assertEqual((type(row), type(row[0]), type(row[1]), type(row[2])), (tuple, int, int, str))

    def test_lists_stay_and_are_the_askers_own(self):
        kept = list(self.trials)
        told = pairs(self.trials)
        self.assertEqual(self.trials, kept)
        told.clear()
        self.assertEqual(len(pairs(self.trials)), 8)


class InterfaceTest(unittest.TestCase):
    def test_arguments(self):
        expected = {"Trial": "(house, number, day, mix, fire, place, look, measure)", "bag_of": "(bags, stuff, day)",
                    "parts": "(trials, bags, stuff)", "unlike": "(bags, one, other)",
                    "pairs": "(trials, bags=None)"}
        for name, arguments in expected.items():
            self.assertEqual(str(inspect.signature(getattr(module, name))), arguments, name)

    def test_equality_stands_in_the_class(self):
        self.assertIn("__eq__", vars(Trial))
