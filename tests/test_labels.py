import inspect
import random
import unittest
from itertools import product

from glazetold import labels
from glazetold.labels import can_be, labelled
from glazetold.trials import bag_of
from tests.made import mixed, trial

CLAY = mixed("clay 1")
BOTH = mixed("clay 3, flint 1")
ASH = mixed("ash 1, clay 1")
# As the trials of tests.made come out where nothing else is told.
TILE = (10, "hot", "top", "glossy", 50)


def required_can_be(trials, bags, tile, mixes):
    """What a tile can be, by the words of the document."""
    day, fire, place, look, measure = tile
    told = []
    for at, mix in enumerate(mixes):
        stuffs = [stuff for stuff, amount in mix.least()]
        against = [one for one in trials
                   if (one.mix, one.fire, one.place) == (mix, fire, place)
                   and all(bag_of(bags, stuff, one.day) == bag_of(bags, stuff, day) for stuff in stuffs)
                   and (one.look, one.measure) != (look, measure)]
        if not against:
            told.append(at)
    return told


class CanBeTest(unittest.TestCase):
    def test_no_trials(self):
        self.assertEqual(can_be([], (), TILE, [CLAY]), [0])
        self.assertEqual(can_be([], (("clay", 5),), TILE, [CLAY, BOTH, ASH]), [0, 1, 2])
        self.assertEqual(can_be([], (), TILE, [CLAY] * 12), list(range(12)))

    def test_the_same_look_and_measure(self):
        self.assertEqual(can_be([trial(mix=CLAY)], (), TILE, [CLAY, BOTH]), [0, 1])

    def test_another_look(self):
        self.assertEqual(can_be([trial(mix=CLAY, look="matt")], (), TILE, [CLAY, BOTH]), [1])

    def test_another_measure(self):
        for measure in (0, 49, 51, 1000):
            self.assertEqual(can_be([trial(mix=CLAY, measure=measure)], (), TILE, [CLAY, BOTH]), [1])

    def test_another_look_and_another_measure(self):
        self.assertEqual(can_be([trial(mix=CLAY, look="matt", measure=51)], (), TILE, [CLAY, BOTH]), [1])

    def test_one_trial_for_it_and_one_against_it(self):
        for told in ([trial(mix=CLAY), trial(mix=CLAY, look="matt")], [trial(mix=CLAY, look="matt"), trial(mix=CLAY)]):
            self.assertEqual(can_be(told, (), TILE, [CLAY, BOTH]), [1])

    def test_another_mix_fire_or_place_makes_no_difference(self):
        told = [trial(mix=BOTH, look="matt"), trial(mix=CLAY, fire="cold", look="matt"),
                trial(mix=CLAY, place="floor", look="matt")]
        self.assertEqual(can_be(told, (), TILE, [CLAY]), [0])
        self.assertEqual(can_be(told, (), TILE, [BOTH]), [])

    def test_house_and_number_make_no_difference(self):
        told = [trial(house="south", number=7, mix=CLAY, look="matt")]
        self.assertEqual(can_be(told, (), TILE, [CLAY]), [])

    def test_the_day_alone_makes_no_difference(self):
        for day in (0, 9, 10, 11, 10 ** 6):
            self.assertEqual(can_be([trial(day=day, look="matt")], (), TILE, [BOTH]), [])

    def test_a_bag_of_one_of_its_stuffs_changed_between(self):
        told = [trial(day=5, look="matt")]
        self.assertEqual(can_be(told, (("clay", 8),), TILE, [BOTH]), [0])
        self.assertEqual(can_be(told, (("flint", 8),), TILE, [BOTH]), [0])

    def test_a_bag_of_another_stuff_changed_between(self):
        told = [trial(day=5, look="matt")]
        self.assertEqual(can_be(told, (("ash", 8),), TILE, [BOTH]), [])
        self.assertEqual(can_be([trial(day=5, mix=CLAY, look="matt")], (("flint", 8),), TILE, [CLAY]), [])

    def test_a_bag_changed_on_the_very_days(self):
        told = [trial(day=5, look="matt")]
        self.assertEqual(can_be(told, (("clay", 5),), TILE, [BOTH]), [])
        self.assertEqual(can_be(told, (("clay", 6),), TILE, [BOTH]), [0])
        self.assertEqual(can_be(told, (("clay", 10),), TILE, [BOTH]), [0])
        self.assertEqual(can_be(told, (("clay", 11),), TILE, [BOTH]), [])

    def test_a_tile_ahead_of_the_trial(self):
        told = [trial(day=15, look="matt")]
        self.assertEqual(can_be(told, (("clay", 10),), TILE, [BOTH]), [])
        self.assertEqual(can_be(told, (("clay", 11),), TILE, [BOTH]), [0])
        self.assertEqual(can_be(told, (("clay", 15),), TILE, [BOTH]), [0])
        self.assertEqual(can_be(told, (("clay", 16),), TILE, [BOTH]), [])

    def test_bags_changed_more_than_once(self):
        told = [trial(day=5, look="matt")]
        self.assertEqual(can_be(told, (("clay", 6), ("clay", 7)), TILE, [BOTH]), [0])
        self.assertEqual(can_be(told, (("clay", 4), ("clay", 3), ("clay", 12)), TILE, [BOTH]), [])

    def test_the_same_mix_twice_by_another_whole(self):
        told = [trial(look="matt")]
        mixes = [mixed("clay 75, flint 25"), CLAY, mixed("flint 1, clay 3"), CLAY]
        self.assertEqual(can_be(told, (), TILE, mixes), [1, 3])
        self.assertEqual(can_be([trial(mix=CLAY, measure=1)], (), TILE, mixes), [0, 2])

    def test_none_that_it_can_be(self):
        told = [trial(mix=mix, measure=7) for mix in (CLAY, BOTH, ASH)]
        self.assertEqual(can_be(told, (), TILE, [ASH, BOTH, CLAY]), [])

    def test_more_mixes_than_told(self):
        self.assertEqual(can_be([trial(look="matt")], (), TILE, [BOTH, CLAY] * 10), list(range(1, 20, 2)))
        self.assertEqual(can_be([trial(look="matt")], (), TILE, []), [])

    def test_against_the_words_of_the_document(self):
        chance = random.Random(16)
        names = ("hot", "cold")
        for _ in range(400):
            trials = [trial(day=chance.randint(0, 6), mix=chance.choice((CLAY, BOTH, ASH)), fire=chance.choice(names),
                            place=chance.choice(names), look=chance.choice(names), measure=chance.randint(0, 1))
                      for _ in range(chance.randint(0, 14))]
            bags = tuple(bag for bag in product(("clay", "flint", "ash"), range(8)) if chance.random() < 0.1)
            tile = (chance.randint(0, 6), chance.choice(names), chance.choice(names), chance.choice(names),
                    chance.randint(0, 1))
            mixes = [chance.choice((CLAY, BOTH, ASH, mixed("flint 1"))) for _ in range(chance.randint(1, 12))]
            self.assertEqual(can_be(trials, bags, tile, mixes), required_can_be(trials, bags, tile, mixes))

    def test_what_is_handed_in_stays(self):
        trials, bags, mixes = [trial(look="matt"), trial(mix=CLAY)], (("clay", 3),), [CLAY, BOTH]
        told = can_be(trials, bags, TILE, mixes)
        self.assertEqual(told, [0])
        told.append(7)
        self.assertEqual(can_be(trials, bags, TILE, mixes), [0])
        self.assertEqual((trials, bags, mixes), ([trial(look="matt"), trial(mix=CLAY)], (("clay", 3),), [CLAY, BOTH]))


def all_ways(some):
    """All ways to give each tile one of its numbers, no two the same."""
    ways = [()]
    for numbers in some:
        ways = [way + (number,) for way in ways for number in numbers if number not in way]
    return ways


def some_lists(chance, tiles, most, dense):
    return [[number for number in range(most + 1) if chance.random() < dense] for _ in range(tiles)]


class LabelledTest(unittest.TestCase):
    def assert_few(self, some):
        told = labelled(some)
        self.assertEqual((type(told), len(told), told[0]), (tuple, 2, "few"))
        tiles = told[1]
        self.assertIs(type(tiles), list)
        self.assertEqual([type(tile) for tile in tiles], [int] * len(tiles))
        self.assertEqual(tiles, sorted(set(tiles)))
        self.assertTrue(set(tiles) <= set(range(len(some))), tiles)
        self.assertLess(len({number for tile in tiles for number in some[tile]}), len(tiles))
        return tiles

    def assert_all_ways(self, some):
        """As going through all ways tells it."""
        ways = all_ways(some)
        if ways:
            can = [sorted({way[tile] for way in ways}) for tile in range(len(some))]
            self.assertEqual(labelled(some), ("can", can), some)
            return True
        self.assert_few(some)
        return False

    def test_one_list(self):
        self.assertEqual(labelled([[3]]), ("can", [[3]]))
        self.assertEqual(labelled([list(range(21))]), ("can", [list(range(21))]))

    def test_an_empty_list(self):
        self.assertEqual(labelled([[]]), ("few", [0]))
        self.assertEqual(labelled([[1], [], [2]]), ("few", [1]))
        self.assertEqual(self.assert_few([[1, 2], [2, 3], []]), [2])

    def test_several_empty_lists(self):
        self.assert_few([[], []])
        self.assert_few([[]] * 8)
        self.assert_few([[], [0], [], [0]])

    def test_lists_alike(self):
        self.assertEqual(labelled([[4, 5], [4, 5]]), ("can", [[4, 5], [4, 5]]))
        self.assertEqual(labelled([[4, 5, 6], [4, 5, 6]]), ("can", [[4, 5, 6], [4, 5, 6]]))
        self.assertEqual(labelled([[4, 5]] * 3), ("few", [0, 1, 2]))
        self.assertEqual(labelled([[4]] * 2), ("few", [0, 1]))

    def test_one_list_handed_in_several_times(self):
        own = [1, 2, 3]
        told = labelled([own, own, own])
        self.assertEqual(told, ("can", [[1, 2, 3]] * 3))
        told[1][0].append(9)
        self.assertEqual((told[1][1], told[1][2], own), ([1, 2, 3], [1, 2, 3], [1, 2, 3]))

    def test_a_number_that_only_one_tile_can_have(self):
        self.assertEqual(labelled([[1], [1, 2]]), ("can", [[1], [2]]))
        self.assertEqual(labelled([[1, 2], [1]]), ("can", [[2], [1]]))
        self.assertEqual(labelled([[0, 20], [0], [3, 4]]), ("can", [[20], [0], [3, 4]]))

    def test_two_tiles_keep_two_numbers_from_the_others(self):
        self.assertEqual(labelled([[1, 2], [1, 2, 3], [1, 2]]), ("can", [[1, 2], [3], [1, 2]]))
        self.assertEqual(labelled([[1, 2], [2, 3], [1, 3], [1, 2, 3, 4]]), ("can", [[1, 2], [2, 3], [1, 3], [4]]))

    def test_a_chain(self):
        chain = [[at, at + 1] for at in range(8)]
        self.assertEqual(labelled(chain), ("can", chain))
        self.assertEqual(labelled([[0]] + chain[:7]), ("can", [[at] for at in range(8)]))
        self.assertEqual(labelled(chain[:7] + [[7]]), ("can", [[at] for at in range(8)]))
        self.assertEqual(labelled(chain[:7] + [[0]]), ("can", [[at + 1] for at in range(7)] + [[0]]))

    def test_eight_lists(self):
        whole = list(range(21))
        self.assertEqual(labelled([whole] * 8), ("can", [whole] * 8))
        self.assertEqual(labelled([[at] for at in range(7, -1, -1)]), ("can", [[at] for at in range(7, -1, -1)]))
        self.assertEqual(labelled([list(range(7))] * 8), ("few", list(range(8))))
        self.assertTrue(self.assert_all_ways([list(range(at + 1)) for at in range(8)]))

    def test_more_lists_than_told(self):
        self.assertEqual(labelled([]), ("can", []))
        self.assertEqual(labelled([list(range(12))] * 12), ("can", [list(range(12))] * 12))
        self.assert_few([list(range(21))] * 22)

    def test_all_small_ones_against_all_ways(self):
        lists = [[number for number in range(3) if bits >> number & 1] for bits in range(8)]
        for tiles in (1, 2, 3, 4):
            for some in product(lists, repeat=tiles):
                self.assert_all_ways([list(numbers) for numbers in some])

    def test_by_chance_against_all_ways(self):
        chance = random.Random(17)
        seen = {True: 0, False: 0}
        for _ in range(600):
            tiles = chance.randint(1, 8)
            some = some_lists(chance, tiles, chance.randint(2, 9), chance.choice((0.2, 0.35, 0.5)))
            seen[self.assert_all_ways(some)] += 1
        self.assertGreater(min(seen.values()), 100)

    def test_lists_handed_in_stay(self):
        for some in ([[1, 2], [1, 2, 3], [1, 2]], [[1], [1]], [[], [1]]):
            before = [list(numbers) for numbers in some]
            labelled(some)
            self.assertEqual(some, before)

    def test_told_lists_are_new_ones(self):
        some = [[1, 2], [3]]
        told = labelled(some)
        told[1][0].clear()
        told[1].clear()
        self.assertEqual(some, [[1, 2], [3]])
        self.assertEqual(labelled(some), ("can", [[1, 2], [3]]))
        few = labelled([[1], [1]])
        few[1].clear()
        self.assertEqual(labelled([[1], [1]]), ("few", [0, 1]))


class InterfaceTest(unittest.TestCase):
    def test_names_of_arguments(self):
        for name, arguments in (("can_be", "(trials, bags, tile, mixes)"), ("labelled", "(some)")):
            self.assertEqual(str(inspect.signature(getattr(labels, name))), arguments)

    def test_by_name(self):
        self.assertEqual(can_be(mixes=[CLAY], tile=TILE, bags=(), trials=[]), [0])
        self.assertEqual(labelled(some=[[1]]), ("can", [[1]]))
