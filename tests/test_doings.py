import inspect
import random
import unittest
from fractions import Fraction
from itertools import permutations, product

from glazetold import doings
from glazetold.blends import blend, line, place_on
from glazetold.doings import did, lies, ranked
from glazetold.errors import AskedError, GlazeError, NoChange, ToldError
from glazetold.mixes import Mix
from glazetold.trials import pairs, unlike
from tests.anything import THINGS
from tests.made import GREAT, mixed, trial

CLAY = mixed("clay 1")
BOTH = mixed("clay 3, flint 1")
ASH = mixed("ash 1, clay 1")


def required_did(trials, change, bags):
    """What a change did, by the words of the document."""
    thing, one, other = change
    found = [(ahead, behind) for ahead, behind in product(range(len(trials)), repeat=2)
             if getattr(trials[ahead], thing) == one and getattr(trials[behind], thing) == other
             and unlike(bags, trials[ahead], trials[behind]) == [thing]]
    words = []
    for ahead, behind in found:
        difference = trials[behind].measure - trials[ahead].measure
        words.append("more" if difference > 0 else "less" if difference < 0 else "same")
    if not found:
        return ("none",)
    if len(set(words)) == 1:
        return ("sure", words[0], found)
    return ("open", found[0], next(pair for pair, word in zip(found, words) if word != words[0]))


def some_trials(chance, many, measures=3):
    mixes = [CLAY, BOTH, ASH]
    return [trial(number=at + 1, day=chance.randint(0, 4), mix=chance.choice(mixes), fire=chance.choice(("hot", "cold")),
                  place=chance.choice(("top", "floor", "door", "back")), measure=chance.randint(0, measures))
            for at in range(many)]


def some_bags(chance):
    return tuple(some for some in product(("clay", "flint", "ash"), range(6)) if chance.random() < 0.1)


class SureTest(unittest.TestCase):
    def test_more(self):
        told = [trial(fire="cold", measure=3), trial(fire="hot", measure=4)]
        self.assertEqual(did(told, ("fire", "cold", "hot")), ("sure", "more", [(0, 1)]))

    def test_less(self):
        told = [trial(place="floor", measure=1000), trial(place="top", measure=0)]
        self.assertEqual(did(told, ("place", "floor", "top")), ("sure", "less", [(0, 1)]))

    def test_same(self):
        told = [trial(mix=CLAY), trial(mix=BOTH)]
        self.assertEqual(did(told, ("mix", CLAY, BOTH)), ("sure", "same", [(0, 1)]))

    def test_the_other_way_about(self):
        told = [trial(fire="cold", measure=3), trial(fire="hot", measure=4), trial(fire="cold", measure=2)]
        self.assertEqual(did(told, ("fire", "cold", "hot")), ("sure", "more", [(0, 1), (2, 1)]))
        self.assertEqual(did(told, ("fire", "hot", "cold")), ("sure", "less", [(1, 0), (1, 2)]))

    def test_pairs_rise_by_the_one_first(self):
        told = [trial(fire="hot", measure=9), trial(fire="cold"), trial(fire="hot", measure=8), trial(fire="cold")]
        self.assertEqual(did(told, ("fire", "hot", "cold")), ("sure", "more", [(0, 1), (0, 3), (2, 1), (2, 3)]))
        self.assertEqual(did(told, ("fire", "cold", "hot")), ("sure", "less", [(1, 0), (1, 2), (3, 0), (3, 2)]))

    def test_differences_of_any_size_agree(self):
        told = [trial(fire="cold", measure=0), trial(fire="hot", measure=1), trial(fire="hot", measure=1000)]
        self.assertEqual(did(told, ("fire", "cold", "hot")), ("sure", "more", [(0, 1), (0, 2)]))

    def test_the_mix_by_another_whole(self):
        told = [trial(mix=mixed("clay 75, flint 25"), measure=1), trial(mix=mixed("clay 7"), measure=2)]
        self.assertEqual(did(told, ("mix", BOTH, CLAY)), ("sure", "more", [(0, 1)]))

    def test_other_pairs_are_not_looked_at(self):
        told = [trial(fire="cold", measure=3), trial(fire="hot", measure=4), trial(fire="mild", measure=0),
                trial(fire="hot", place="floor", measure=0), trial(fire="hot", mix=CLAY, measure=0)]
        self.assertEqual(did(told, ("fire", "cold", "hot")), ("sure", "more", [(0, 1)]))

    def test_the_list_is_the_askers_own(self):
        told = [trial(fire="cold", measure=3), trial(fire="hot", measure=4)]
        kept = list(told)
        did(told, ("fire", "cold", "hot"))[2].clear()
        self.assertEqual(did(told, ("fire", "cold", "hot")), ("sure", "more", [(0, 1)]))
        self.assertEqual(told, kept)


class OpenTest(unittest.TestCase):
    def test_the_first_pair_and_the_first_that_does_otherwise(self):
        told = [trial(fire="cold", measure=5)] + [trial(fire="hot", measure=measure) for measure in (6, 7, 5, 4)]
        self.assertEqual(did(told, ("fire", "cold", "hot")), ("open", (0, 1), (0, 3)))
        self.assertEqual(did(told, ("fire", "hot", "cold")), ("open", (1, 0), (3, 0)))

    def test_each_word_against_each(self):
        measures = {"more": 6, "same": 5, "less": 4}
        for one, other in permutations(measures, 2):
            told = [trial(fire="cold", measure=5), trial(fire="hot", measure=measures[one]),
                    trial(fire="hot", measure=measures[other])]
            self.assertEqual(did(told, ("fire", "cold", "hot")), ("open", (0, 1), (0, 2)))

    def test_for_mixes_and_places(self):
        told = [trial(mix=CLAY, measure=5), trial(mix=BOTH, measure=6), trial(mix=BOTH, measure=5)]
        self.assertEqual(did(told, ("mix", CLAY, BOTH)), ("open", (0, 1), (0, 2)))
        told = [trial(place="a", measure=5), trial(place="b", measure=6), trial(place="b", measure=5)]
        self.assertEqual(did(told, ("place", "b", "a")), ("open", (1, 0), (2, 0)))


class NoneTest(unittest.TestCase):
    def test_no_trials(self):
        for change in (("fire", "hot", "cold"), ("place", "top", "floor"), ("mix", CLAY, BOTH)):
            self.assertEqual(did([], change), ("none",))

    def test_no_such_pairs(self):
        told = [trial(fire="cold"), trial(fire="hot", place="floor"), trial(fire="mild")]
        self.assertEqual(did(told, ("fire", "cold", "hot")), ("none",))
        self.assertEqual(did(told, ("fire", "x", "y")), ("none",))
        self.assertEqual(did(told, ("mix", BOTH, CLAY)), ("none",))

    def test_a_thing_of_the_same_name_as_another(self):
        told = [trial(fire="top", measure=1), trial(fire="floor", measure=2)]
        self.assertEqual(did(told, ("place", "top", "floor")), ("none",))


class BagsTest(unittest.TestCase):
    def setUp(self):
        self.trials = [trial(day=1, fire="cold", measure=1), trial(day=9, fire="hot", measure=2),
                       trial(day=2, fire="hot", measure=0)]
        self.change = ("fire", "cold", "hot")

    def test_without_bags(self):
        for told in (did(self.trials, self.change), did(self.trials, self.change, None),
                     did(self.trials, self.change, ()), did(self.trials, self.change, bags=None),
                     did(trials=self.trials, change=self.change)):
            self.assertEqual(told, ("open", (0, 1), (0, 2)))

    def test_a_bag_parts_trials(self):
        for told in (did(self.trials, self.change, (("clay", 5),)), did(self.trials, self.change, bags=(("clay", 5),))):
            self.assertEqual(told, ("sure", "less", [(0, 2)]))
        self.assertEqual(did(self.trials, self.change, (("clay", 2),)), ("none",))
        self.assertEqual(did(self.trials, self.change, (("ash", 5),)), ("open", (0, 1), (0, 2)))

    def test_by_chance(self):
        chance = random.Random(12)
        changes = [("fire", "hot", "cold"), ("fire", "cold", "hot"), ("place", "top", "floor"),
                   ("place", "door", "back"), ("mix", CLAY, BOTH), ("mix", ASH, BOTH), ("fire", "hot", "mild")]
        words = []
        for at in range(150):
            told = some_trials(chance, chance.randint(0, 25), chance.choice((0, 1, 3, 1000)))
            bags = some_bags(chance)
            for change in changes:
                answer = did(told, change, bags)
                words.append(answer[0])
                self.assertEqual(answer, required_did(told, change, bags))
        self.assertEqual(set(words), {"sure", "open", "none"})


class NoChangeTest(unittest.TestCase):
    def setUp(self):
        self.trials = [trial(fire="cold", measure=3), trial(fire="hot", measure=4), trial(mix=CLAY)]

    def assert_refused(self, change):
        kept = list(self.trials)
        for told in (self.trials, []):
            with self.assertRaises(NoChange):
                did(told, change)
        self.assertEqual(self.trials, kept)

    def test_of_another_length(self):
        for change in ((), ("fire",), ("fire", "cold"), ("fire", "cold", "hot", "mild"), ("mix", CLAY),
                       ("mix", CLAY, BOTH, ASH), ("place", "top", "floor", None), ((), (), (), ())):
            self.assert_refused(change)

    def test_of_an_unknown_thing(self):
        for thing in ("", "Fire", "fires", "bag clay", "bag", "house", "day", "look", "measure", "fire ", None, 0, 1,
                      True, [], ["fire"], (), ("fire",), CLAY, self.trials[0]):
            self.assert_refused((thing, "cold", "hot"))
            self.assert_refused((thing, CLAY, BOTH))

    def test_of_one_and_other_alike(self):
        self.assert_refused(("fire", "hot", "hot"))
        self.assert_refused(("place", "top", "top"))
        self.assert_refused(("mix", CLAY, CLAY))
        self.assert_refused(("mix", BOTH, mixed("flint 25, clay 75")))

    def test_names_where_mixes_are_due(self):
        for one, other in (("cold", "hot"), ("clay", BOTH), (BOTH, "clay"), ("clay 3, flint 1", CLAY),
                           (BOTH.least(), CLAY), (CLAY, BOTH.shares())):
            self.assert_refused(("mix", one, other))

    def test_mixes_where_names_are_due(self):
        for thing in ("fire", "place"):
            self.assert_refused((thing, CLAY, BOTH))
            self.assert_refused((thing, CLAY, "hot"))
            self.assert_refused((thing, "hot", CLAY))

    def test_trials_where_names_or_mixes_are_due(self):
        for thing, right in (("fire", "hot"), ("place", "top"), ("mix", CLAY)):
            self.assert_refused((thing, self.trials[0], right))
            self.assert_refused((thing, right, self.trials[0]))

    def test_texts_that_are_no_names(self):
        for name in ("", "abcdefghi", "Hot", "h ot", "hot ", "h1", "a" * 2000, "~"):
            for thing in ("fire", "place"):
                self.assert_refused((thing, name, "cold"))
                self.assert_refused((thing, "cold", name))

    def test_anything(self):
        names = ("a", "z", "clay", "abcdefgh")
        for thing in THINGS:
            self.assert_refused((thing, "hot", "cold"))
            self.assert_refused((thing, thing, thing))
            self.assert_refused((thing,))
            self.assert_refused(("mix", thing, CLAY))
            self.assert_refused(("mix", CLAY, thing))
            if thing not in names:
                self.assert_refused(("fire", thing, "hot"))
                self.assert_refused(("fire", "hot", thing))
                self.assert_refused(("place", thing, thing))
            if type(thing) is tuple:
                self.assert_refused(thing)

    def test_names_at_their_bounds(self):
        self.assertEqual(did(self.trials, ("fire", "a", "abcdefgh")), ("none",))

    def test_the_family(self):
        with self.assertRaises(AskedError) as caught:
            did([], ())
        self.assertIs(type(caught.exception), NoChange)
        self.assertIsInstance(caught.exception, GlazeError)
        self.assertIsInstance(caught.exception, ValueError)
        self.assertNotIsInstance(caught.exception, ToldError)


def by_betters(betters):
    """Trials by which just these are better: tuples (better, worse); each has a mix of its own."""
    told = []
    for at, (better, worse) in enumerate(betters):
        mix = Mix((("clay", at + 1), ("flint", 1)))
        told.append(trial(number=2 * at + 1, mix=mix, place=better, measure=60))
        told.append(trial(number=2 * at + 2, mix=mix, place=worse, measure=40))
    return told


def is_better(trials, bags, place, other):
    return required_did(trials, ("place", other, place), bags)[:2] == ("sure", "more")


def required_orders(trials, bags):
    """All orders that go by what is better."""
    places = sorted({row.place for row in trials})
    betters = [(place, other) for place, other in permutations(places, 2) if is_better(trials, bags, place, other)]
    return [list(order) for order in permutations(places)
            if all(order.index(place) < order.index(other) for place, other in betters)]


class RankedTest(unittest.TestCase):
    def assert_ring(self, told, trials, bags=()):
        self.assertEqual((type(told), len(told), told[0], type(told[1])), (tuple, 2, "ring", list))
        ring = told[1]
        self.assertGreaterEqual(len(ring), 2)
        self.assertEqual(len(set(ring)), len(ring))
        for place, other in zip(ring, ring[1:] + ring[:1]):
            self.assertTrue(is_better(trials, bags, place, other), ring)

    def assert_as_required(self, trials, bags):
        told = ranked(trials, bags)
        orders = required_orders(trials, bags)
        if orders:
            self.assertEqual(told, ("order", min(orders)))
        else:
            self.assert_ring(told, trials, bags)
        self.assertEqual(ranked(trials, bags), told)
        return told[0]

    def test_no_trials(self):
        self.assertEqual(ranked([]), ("order", []))
        self.assertEqual(ranked([], (("clay", 1),)), ("order", []))

    def test_one_place(self):
        self.assertEqual(ranked([trial(), trial(measure=3)]), ("order", ["top"]))

    def test_nothing_is_sure(self):
        told = [trial(place="c"), trial(place="a", fire="cold"), trial(place="b", mix=CLAY)]
        self.assertEqual(ranked(told), ("order", ["a", "b", "c"]))

    def test_what_is_open_or_the_same_is_not_better(self):
        self.assertEqual(ranked([trial(place="b", measure=5), trial(place="a", measure=5)]), ("order", ["a", "b"]))
        told = [trial(place="b", measure=5), trial(place="a", measure=4), trial(place="a", measure=5)]
        self.assertEqual(ranked(told), ("order", ["a", "b"]))
        told = [trial(place="b", measure=5), trial(place="a", measure=4), trial(place="a", measure=3)]
        self.assertEqual(ranked(told), ("order", ["b", "a"]))

    def test_chains(self):
        self.assertEqual(ranked(by_betters([("b", "a"), ("c", "b"), ("d", "c")])), ("order", ["d", "c", "b", "a"]))
        self.assertEqual(ranked(by_betters([("a", "b"), ("b", "c")])), ("order", ["a", "b", "c"]))

    def test_the_first_of_several_orders(self):
        self.assertEqual(ranked(by_betters([("z", "a"), ("y", "b")])), ("order", ["y", "b", "z", "a"]))
        self.assertEqual(ranked(by_betters([("c", "a"), ("d", "b")])), ("order", ["c", "a", "d", "b"]))
        self.assertEqual(ranked(by_betters([("d", "a"), ("d", "b"), ("c", "e")])), ("order", ["c", "d", "a", "b", "e"]))
        self.assertEqual(ranked(by_betters([("b", "a"), ("e", "c")])[::-1]), ("order", ["b", "a", "e", "c"]))

    def test_names_rise_by_their_letters(self):
        told = [trial(place=place, mix=Mix((("clay", at + 1), ("ash", 1)))) for at, place in enumerate(("b", "ab", "a"))]
        self.assertEqual(ranked(told), ("order", ["a", "ab", "b"]))

    def test_two_are_never_better_than_each_other(self):
        told = by_betters([("a", "b"), ("b", "a")])
        self.assertEqual(did(told, ("place", "a", "b"))[0], "open")
        self.assertEqual(ranked(told), ("order", ["a", "b"]))

    def test_rings(self):
        for names in ("abc", "acb", "abcd", "dbca", "abcdefgh", "hgfedcba"):
            betters = list(zip(names, names[1:] + names[0]))
            told = by_betters(betters)
            answer = ranked(told)
            self.assert_ring(answer, told)
            self.assertEqual(sorted(answer[1]), sorted(names))

    def test_a_ring_with_other_places_ahead_and_behind(self):
        betters = [("m", "n"), ("n", "o"), ("o", "m"), ("a", "m"), ("z", "a"), ("o", "b"), ("b", "c"), ("y", "x")]
        told = by_betters(betters)
        answer = ranked(told)
        self.assert_ring(answer, told)
        self.assertEqual(sorted(answer[1]), ["m", "n", "o"])

    def test_two_rings(self):
        told = by_betters([("a", "b"), ("b", "c"), ("c", "a"), ("x", "y"), ("y", "z"), ("z", "x"), ("x", "a")])
        self.assert_ring(ranked(told), told)
        self.assert_ring(ranked(told[::-1]), told[::-1])

    def test_the_same_ring_when_asked_again(self):
        betters = [("a", "b"), ("b", "c"), ("c", "a"), ("c", "d"), ("d", "b"), ("x", "y"), ("y", "z"), ("z", "x")]
        told = by_betters(betters)
        answer = ranked(told)
        self.assertEqual(ranked(told), answer)
        self.assertEqual(ranked(by_betters(betters), ()), answer)
        answer[1].clear()
        self.assert_ring(ranked(told), told)

    def test_bags(self):
        told = [trial(day=1, place="a", measure=1), trial(day=9, place="b", measure=2)]
        for answer in (ranked(told), ranked(told, None), ranked(told, ()), ranked(trials=told, bags=None)):
            self.assertEqual(answer, ("order", ["b", "a"]))
        self.assertEqual(ranked(told, (("clay", 5),)), ("order", ["a", "b"]))
        self.assertEqual(ranked(told, bags=(("ash", 5),)), ("order", ["b", "a"]))

    def test_every_way_that_three_places_can_be_better(self):
        for some in product((None, 0, 1), repeat=3):
            chosen = [pair if turn else pair[::-1] for pair, turn in zip((("a", "b"), ("b", "c"), ("c", "a")), some)
                      if turn is not None]
            self.assert_as_required(by_betters(chosen), ())

    def test_by_chance(self):
        chance = random.Random(13)
        words = set()
        for at in range(150):
            told = some_trials(chance, chance.randint(0, 25), chance.choice((1, 3, 1000)))
            words.add(self.assert_as_required(told, some_bags(chance)))
            names = chance.sample("abcdef", 5)
            betters = [(one, other) for one, other in permutations(names, 2) if chance.random() < 0.2]
            words.add(self.assert_as_required(by_betters(betters), ()))
        self.assertEqual(words, {"order", "ring"})

    def test_three_hundred_trials(self):
        names = [one + other for one in "lkjihgfedcba" for other in "yxwvutsrqponmlkjihgfedcba"]
        self.assertEqual(len(names), 300)
        told = [trial(number=at + 1, place=name, measure=at) for at, name in enumerate(names)]
        self.assertEqual(ranked(told), ("order", names[::-1]))

    def test_lists_stay(self):
        told = by_betters([("b", "a"), ("c", "b")])
        kept = list(told)
        ranked(told)[1].clear()
        self.assertEqual(told, kept)
        self.assertEqual(ranked(told), ("order", ["c", "b", "a"]))


def at_spots(one, other, told):
    """Trials on the line, tuples (top, bottom, measure)."""
    return [trial(number=at + 1, mix=blend([one, other], [bottom - top, top]), measure=measure)
            for at, (top, bottom, measure) in enumerate(told)]


class LiesTest(unittest.TestCase):
    def setUp(self):
        self.one = BOTH
        self.other = ASH

    def asked(self, told, wished):
        return lies(at_spots(self.one, self.other, told), self.one, self.other, "hot", "top", wished)

    def test_no_trials(self):
        self.assertEqual(self.asked([], 5), [])

    def test_one_spot_alone(self):
        for wished, expected in ((4, []), (5, [((1, 2), (1, 2))]), (6, [])):
            self.assertEqual(self.asked([(1, 2, 5)], wished), expected)

    def test_several_trials_at_one_spot(self):
        for wished, expected in ((2, []), (3, [((1, 3), (1, 3))]), (5, [((1, 3), (1, 3))]), (8, [((1, 3), (1, 3))]),
                                 (9, [])):
            self.assertEqual(self.asked([(1, 3, 8), (2, 6, 3), (1, 3, 7)], wished), expected)

    def test_two_spots(self):
        told = [(1, 1, 20), (0, 1, 10)]
        nought, whole = (0, 1), (1, 1)
        for wished, expected in ((9, []), (10, [(nought, nought), (nought, whole)]), (11, [(nought, whole)]),
                                 (19, [(nought, whole)]), (20, [(nought, whole), (whole, whole)]), (21, [])):
            self.assertEqual(self.asked(told, wished), expected)

    def test_only_neighbours(self):
        told = [(0, 1, 10), (1, 4, 30), (1, 2, 12), (1, 1, 50)]
        self.assertEqual(self.asked(told, 20), [((0, 1), (1, 4)), ((1, 4), (1, 2)), ((1, 2), (1, 1))])
        self.assertEqual(self.asked(told, 40), [((1, 2), (1, 1))])
        self.assertEqual(self.asked(told, 11), [((0, 1), (1, 4))])

    def test_falling_measures(self):
        told = [(0, 1, 30), (1, 2, 20), (1, 1, 10)]
        self.assertEqual(self.asked(told, 25), [((0, 1), (1, 2))])
        self.assertEqual(self.asked(told, 20), [((0, 1), (1, 2)), ((1, 2), (1, 2)), ((1, 2), (1, 1))])

    def test_spots_rise_as_fractions(self):
        told = [(2, 3, 1), (1, 10, 1), (9, 10, 1), (1, 2, 1), (1, 3, 1), (7, 9, 1)]
        spots = [(1, 10), (1, 3), (1, 2), (2, 3), (7, 9), (9, 10)]
        answer = self.asked(told, 1)
        self.assertEqual([one for one, other in answer if one == other], spots)
        self.assertEqual([(one, other) for one, other in answer if one != other], list(zip(spots, spots[1:])))

    def test_neighbours_that_are_very_near(self):
        told = [(2, GREAT, 7), (1, GREAT, 5), (1, GREAT - 1, 6), (1, GREAT + 1, 4)]
        spots = sorted({Fraction(top, bottom) for top, bottom, measure in told})
        answer = [(one, other) for one, other in self.asked(told, 5)]
        near = [(spot.numerator, spot.denominator) for spot in spots]
        self.assertEqual(answer, [(near[0], near[1]), (near[1], near[1]), (near[1], near[2])])

    def test_trials_off_the_line(self):
        told = at_spots(self.one, self.other, [(0, 1, 10), (1, 1, 20)])
        told.insert(1, trial(mix=mixed("bone 1"), measure=15))
        told.insert(0, trial(mix=CLAY, measure=15))
        self.assertEqual(lies(told, self.one, self.other, "hot", "top", 15), [((0, 1), (1, 1))])

    def test_trials_of_another_fire_or_place(self):
        told = at_spots(self.one, self.other, [(0, 1, 10), (1, 1, 20)])
        middle = blend([self.one, self.other], [1, 1])
        told.append(trial(mix=middle, fire="cold", measure=15))
        told.append(trial(mix=middle, place="floor", measure=15))
        self.assertEqual(lies(told, self.one, self.other, "hot", "top", 15), [((0, 1), (1, 1))])
        self.assertEqual(lies(told, self.one, self.other, "cold", "top", 15), [((1, 2), (1, 2))])
        self.assertEqual(lies(told, self.one, self.other, "hot", "floor", 15), [((1, 2), (1, 2))])
        self.assertEqual(lies(told, self.one, self.other, "cold", "floor", 15), [])

    def test_any_wished_measure(self):
        told = [(0, 1, 0), (1, 1, 1000)]
        for wished in (-1, -GREAT, 1001, GREAT):
            self.assertEqual(self.asked(told, wished), [])
        self.assertEqual(self.asked(told, 0), [((0, 1), (0, 1)), ((0, 1), (1, 1))])

    def test_by_name(self):
        told = at_spots(self.one, self.other, [(1, 2, 5)])
        self.assertEqual(lies(wished=5, place="top", fire="hot", other=self.other, one=self.one, trials=told),
                         [((1, 2), (1, 2))])

    def test_turned_about(self):
        told = at_spots(self.one, self.other, [(0, 1, 10), (1, 4, 30), (1, 1, 15)])
        self.assertEqual(lies(told, self.other, self.one, "hot", "top", 20), [((0, 1), (3, 4)), ((3, 4), (1, 1))])

    def test_kinds(self):
        told = self.asked([(0, 1, 10), (1, 2, 10)], 10)
        self.assertIs(type(told), list)
        for row in told:
            self.assertEqual((type(row), type(row[0]), type(row[1])), (tuple, tuple, tuple))

    def test_lists_stay_and_are_the_askers_own(self):
        trials = at_spots(self.one, self.other, [(1, 1, 20), (0, 1, 10)])
        kept = list(trials)
        lies(trials, self.one, self.other, "hot", "top", 15).clear()
        self.assertEqual(trials, kept)
        self.assertEqual(lies(trials, self.one, self.other, "hot", "top", 15), [((0, 1), (1, 1))])

    def test_by_chance(self):
        chance = random.Random(14)
        mixes = line(self.one, self.other, 6) + [CLAY]
        for at in range(200):
            told = [trial(mix=chance.choice(mixes), fire=chance.choice(("hot", "hot", "cold")),
                          measure=chance.randint(0, 6)) for number in range(chance.randint(0, 12))]
            wished = chance.randint(-1, 7)
            self.assertEqual(lies(told, self.one, self.other, "hot", "top", wished), self.required(told, wished))

    def required(self, trials, wished):
        measures = {}
        for row in trials:
            spot = place_on(self.one, self.other, row.mix)
            if spot is not None and row.fire == "hot" and row.place == "top":
                measures.setdefault(Fraction(*spot), []).append(row.measure)
        spots = sorted(measures)
        looked = sorted([(spot, spot) for spot in spots] + list(zip(spots, spots[1:])))
        return [((one.numerator, one.denominator), (other.numerator, other.denominator)) for one, other in looked
                if min(measures[one] + measures[other]) <= wished <= max(measures[one] + measures[other])]


class InterfaceTest(unittest.TestCase):
    def test_arguments(self):
        expected = {"did": "(trials, change, bags=None)", "ranked": "(trials, bags=None)",
                    "lies": "(trials, one, other, fire, place, wished)"}
        for name, arguments in expected.items():
            self.assertEqual(str(inspect.signature(getattr(doings, name))), arguments, name)

    def test_each_pair_of_trials_is_told_by_its_change(self):
        told = some_trials(random.Random(3), 20)
        for one, other, thing in pairs(told):
            answer = did(told, (thing, getattr(told[one], thing), getattr(told[other], thing)))
            self.assertIn(answer[0], ("sure", "open"))
            if answer[0] == "sure":
                self.assertIn((one, other), answer[2])
