import inspect
import random
import unittest
from itertools import permutations, product

from glazetold import books
from glazetold import doings
from glazetold import trials as trials_module
from glazetold.blends import blend
from glazetold.books import Book, joined
from glazetold.errors import AskedError, Clash, GlazeError, NoChange, NoDay, NoName, Nothing, ToldError, Twice
from glazetold.trials import Trial
from tests.anything import THINGS
from tests.made import BEYOND, FIELDS, mixed, trial

CLAY = mixed("clay 1")
BOTH = mixed("clay 3, flint 1")
OTHERS = {"day": 11, "mix": CLAY, "fire": "cold", "place": "floor", "look": "matt", "measure": 51}


def keys_of(told):
    return [(one.house, one.number) for one in told]


def is_name(thing):
    return type(thing) is str and 1 <= len(thing) <= 8 and set(thing) <= set("abcdefghijklmnopqrstuvwxyz")


def is_day(thing):
    return type(thing) is int and 0 <= thing <= 10 ** 6


class Refusals(unittest.TestCase):
    def assert_clash(self, house, number, asked, *told):
        with self.assertRaises(Clash) as caught:
            asked(*told)
        self.assertEqual((caught.exception.house, caught.exception.number), (house, number))


class JoinedTest(Refusals):
    def test_no_lists_and_empty_lists(self):
        for lists in ([], [[]], [[], [], []]):
            self.assertEqual(joined(lists), [])

    def test_one_trial(self):
        told = joined([[trial()]])
        self.assertEqual(told, [trial()])
        self.assertIs(type(told), list)
        self.assertIs(type(told[0]), Trial)

    def test_one_trial_told_several_times(self):
        for lists in ([[trial(), trial()]], [[trial()], [trial()]], [[trial(), trial()], [], [trial()]]):
            self.assertEqual(joined(lists), [trial()])

    def test_the_same_by_another_whole_of_its_mix(self):
        told = joined([[trial(mix=mixed("clay 3, flint 1"))], [trial(mix=mixed("flint 25, clay 75"))]])
        self.assertEqual(told, [trial()])

    def test_rising_by_house_then_by_number(self):
        lists = [[trial(house="b", number=10), trial(house="a", number=100), trial(house="b", number=9)],
                 [trial(house="ab", number=1), trial(house="a", number=20), trial(house="b", number=1)]]
        keys = [("a", 20), ("a", 100), ("ab", 1), ("b", 1), ("b", 9), ("b", 10)]
        self.assertEqual(keys_of(joined(lists)), keys)

    def test_the_same_number_of_two_houses_is_no_clash(self):
        self.assertEqual(len(joined([[trial(house="north"), trial(house="south", measure=9)]])), 2)

    def test_unlike_in_each_part(self):
        for field, thing in OTHERS.items():
            self.assert_clash("north", 1, joined, [[trial()], [trial(**{field: thing})]])
            self.assert_clash("north", 1, joined, [[trial(**{field: thing}), trial()]])

    def test_the_least_of_several_that_clash(self):
        keys = [("b", 1), ("a", 20), ("a", 3), ("ab", 1), ("b", 2)]
        for order in permutations(keys):
            lists = [[trial(house=house, number=number, measure=measure) for house, number in order]
                     for measure in (1, 2)]
            self.assert_clash("a", 3, joined, lists)

    def test_house_first_then_number(self):
        lists = [[trial(house="b", number=1), trial(house="a", number=9), trial(house="a", number=10)],
                 [trial(house="b", number=1, day=3), trial(house="a", number=9, day=3)]]
        self.assert_clash("a", 9, joined, lists)

    def test_a_clash_behind_ones_that_do_not(self):
        lists = [[trial(house="a"), trial(house="b"), trial(house="c")], [trial(house="a"), trial(house="c", day=1)]]
        self.assert_clash("c", 1, joined, lists)

    def test_the_same_in_every_order(self):
        told = [trial(house="a"), trial(house="a", number=2), trial(house="b"), trial(house="a")]
        for order in permutations(told):
            for at in range(5):
                self.assertEqual(joined([list(order[:at]), list(order[at:])]), told[:3])

    def test_a_clash_of_three_in_every_order(self):
        told = [trial(house="b"), trial(house="b", measure=1), trial(house="b", measure=2), trial(house="c")]
        for order in permutations(told):
            self.assert_clash("b", 1, joined, [[one] for one in order])

    def test_by_chance_in_any_order(self):
        chance = random.Random(18)
        clashes = 0
        for _ in range(400):
            told = [trial(house=chance.choice("abc"), number=chance.randint(1, 12),
                          measure=6 if chance.random() < 0.1 else 5)
                    for _ in range(chance.randint(0, 25))]
            places = sorted(set(keys_of(told)))
            unlike = [key for key in places
                      if len({one.measure for one in told if (one.house, one.number) == key}) > 1]
            clashes += bool(unlike)
            for _ in range(3):
                chance.shuffle(told)
                cuts = sorted(chance.randint(0, len(told)) for _ in range(2))
                lists = [told[:cuts[0]], told[cuts[0]:cuts[1]], told[cuts[1]:]]
                if unlike:
                    self.assert_clash(*unlike[0], joined, lists)
                else:
                    self.assertEqual(keys_of(joined(lists)), places)
        self.assertTrue(50 < clashes < 350, clashes)

    def test_the_family(self):
        with self.assertRaises(ToldError) as caught:
            joined([[trial(), trial(measure=51)]])
        self.assertIs(type(caught.exception), Clash)
        self.assertIsInstance(caught.exception, GlazeError)
        self.assertNotIsInstance(caught.exception, AskedError)

    def test_lists_handed_in_stay(self):
        lists = [[trial(house="b"), trial(house="a")], [trial(house="a")], []]
        told = joined(lists)
        told.reverse()
        told[0].measure = 999
        told.clear()
        self.assertEqual(lists, [[trial(house="b"), trial(house="a")], [trial(house="a")], []])
        self.assertEqual(joined(lists), [trial(house="a"), trial(house="b")])

    def test_lists_that_clash_stay(self):
        lists = [[trial(house="b"), trial(house="a")], [trial(house="a", measure=1)]]
        self.assert_clash("a", 1, joined, lists)
        self.assertEqual(lists, [[trial(house="b"), trial(house="a")], [trial(house="a", measure=1)]])


class TellTest(Refusals):
    def test_a_new_one(self):
        book = Book()
        self.assertIs(book.tell(trial()), True)
        self.assertEqual(book.trials(), [trial()])

    def test_a_known_one(self):
        book = Book()
        book.tell(trial())
        self.assertIs(book.tell(trial()), False)
        self.assertIs(book.tell(trial(mix=mixed("clay 75, flint 25"))), False)
        self.assertEqual(book.trials(), [trial()])

    def test_another_house_or_number(self):
        book = Book()
        for told in (trial(), trial(number=2), trial(house="south"), trial(house="south", number=2)):
            self.assertIs(book.tell(told), True)
        self.assertEqual(len(book), 4)

    def test_one_that_clashes(self):
        for field, thing in OTHERS.items():
            book = Book()
            book.tell(trial())
            self.assert_clash("north", 1, book.tell, trial(**{field: thing}))
            self.assertEqual(book.trials(), [trial()])
            self.assertIs(book.tell(trial()), False)

    def test_the_clash_is_that_of_the_told_one(self):
        book = Book()
        book.join([trial(house="a"), trial(house="b"), trial(house="c")])
        self.assert_clash("b", 1, book.tell, trial(house="b", measure=9))

    def test_the_trial_handed_in_is_kept_as_a_copy(self):
        book = Book()
        told = trial()
        book.tell(told)
        told.measure = 99
        told.house = "south"
        told.mix = CLAY
        self.assertEqual(book.trials(), [trial()])
        self.assertIs(book.tell(trial()), False)


class JoinTest(Refusals):
    def test_none(self):
        book = Book()
        self.assertEqual(book.join([]), 0)
        self.assertIs(type(book.join([])), int)
        self.assertEqual(len(book), 0)

    def test_new_and_known_ones(self):
        book = Book()
        book.tell(trial(number=2))
        told = book.join([trial(number=3), trial(number=2), trial(number=1)])
        self.assertEqual(told, 2)
        self.assertIs(type(told), int)
        self.assertEqual(keys_of(book.trials()), [("north", 1), ("north", 2), ("north", 3)])
        self.assertEqual(book.join([trial(number=3), trial(number=2), trial(number=1)]), 0)

    def test_one_told_twice_within_the_list(self):
        book = Book()
        self.assertEqual(book.join([trial(), trial(), trial(mix=mixed("clay 6, flint 2"))]), 1)
        self.assertEqual(book.join([trial(), trial(number=2), trial(), trial(number=2)]), 1)
        self.assertEqual(len(book), 2)

    def test_a_list_that_clashes_in_itself(self):
        book = Book()
        book.tell(trial(house="a"))
        self.assert_clash("b", 1, book.join, [trial(house="c"), trial(house="b"), trial(house="b", measure=1)])
        self.assertEqual(book.trials(), [trial(house="a")])

    def test_a_list_that_clashes_with_the_book(self):
        for at in range(3):
            book = Book()
            book.tell(trial(house="b"))
            told = [trial(house="a"), trial(house="c")]
            told.insert(at, trial(house="b", look="matt"))
            self.assert_clash("b", 1, book.join, told)
            self.assertEqual(book.trials(), [trial(house="b")])
            self.assertEqual(book.join([trial(house="a"), trial(house="c")]), 2)

    def test_the_least_of_several_that_clash(self):
        book = Book()
        book.join([trial(house="b"), trial(house="d")])
        in_itself = [trial(house="c"), trial(house="c", measure=1)]
        self.assert_clash("b", 1, book.join, [trial(house="d", measure=1)] + in_itself + [trial(house="b", measure=1)])
        self.assert_clash("c", 1, book.join, [trial(house="d", measure=1)] + in_itself)
        in_itself = [trial(house="a", number=7), trial(house="a", number=7, measure=1)]
        self.assert_clash("a", 7, book.join, [trial(house="b", measure=1)] + in_itself)

    def test_one_of_two_unlike_ones_is_known(self):
        book = Book()
        book.tell(trial())
        for told in ([trial(), trial(measure=1)], [trial(measure=1), trial()], [trial(measure=1), trial(measure=1)]):
            self.assert_clash("north", 1, book.join, told)

    def test_the_list_handed_in_stays_and_is_kept_as_a_copy(self):
        book = Book()
        told = [trial(number=2), trial(number=1), trial(number=2)]
        book.join(told)
        self.assertEqual(told, [trial(number=2), trial(number=1), trial(number=2)])
        told[0].measure = 99
        told.clear()
        self.assertEqual(book.trials(), [trial(number=1), trial(number=2)])

    def test_houses_in_whatever_order(self):
        lists = [[trial(house=house, number=number) for number in (3, 1, 2)] for house in ("b", "a", "c")]
        told = []
        for order in permutations(lists):
            book = Book()
            for one in order:
                self.assertEqual(book.join(one), 3)
            told.append(book)
        for book in told:
            self.assertEqual(book, told[0])
            self.assertEqual(book.trials(), joined(lists))


class NewBagTest(unittest.TestCase):
    def test_it_tells_none(self):
        book = Book()
        self.assertIsNone(book.new_bag("clay", 5))
        self.assertEqual(book.bags(), (("clay", 5),))

    def test_bounds(self):
        book = Book()
        for stuff, day in (("a", 0), ("abcdefgh", 10 ** 6), ("z", 1), ("clay", 999999)):
            book.new_bag(stuff, day)
        self.assertEqual(len(book.bags()), 4)
        for day in (-1, 10 ** 6 + 1):
            self.assertRaises(NoDay, book.new_bag, "clay", day)
        for stuff in ("", "abcdefghi", "Clay", "clay1", "cl ay"):
            self.assertRaises(NoName, book.new_bag, stuff, 5)
        self.assertEqual(len(book.bags()), 4)

    def test_no_name_of_anything(self):
        for thing in THINGS:
            book = Book()
            with self.subTest(thing=thing):
                if is_name(thing):
                    book.new_bag(thing, 5)
                    self.assertEqual(book.bags(), ((thing, 5),))
                else:
                    self.assertRaises(NoName, book.new_bag, thing, 5)
                    self.assertEqual(book, Book())
                    self.assertRaises(Nothing, book.take_back)

    def test_no_day_of_anything(self):
        for thing in THINGS:
            book = Book()
            with self.subTest(thing=thing):
                if is_day(thing):
                    book.new_bag("clay", thing)
                    self.assertEqual(book.bags(), (("clay", thing),))
                else:
                    self.assertRaises(NoDay, book.new_bag, "clay", thing)
                    self.assertEqual(book, Book())
                    self.assertRaises(Nothing, book.take_back)

    def test_of_both_no_name_goes_first(self):
        book = Book()
        for stuff, day in product(THINGS, repeat=2):
            if not is_name(stuff):
                self.assertRaises(NoName, book.new_bag, stuff, day)
        self.assertEqual(book, Book())

    def test_truths_and_others_in_the_place_of_each(self):
        for thing in (True, False, None, [], ["clay"], (), ("clay",), 5, [5], (5,)):
            self.assertRaises(NoName, Book().new_bag, thing, 5)
        for thing in (True, False, None, "", "5", "clay", [], [5], (), (5,)):
            self.assertRaises(NoDay, Book().new_bag, "clay", thing)

    def test_twice(self):
        book = Book()
        book.new_bag("clay", 5)
        self.assertRaises(Twice, book.new_bag, "clay", 5)
        book.new_bag("clay", 6)
        book.new_bag("flint", 5)
        for stuff, day in (("clay", 5), ("clay", 6), ("flint", 5)):
            self.assertRaises(Twice, book.new_bag, stuff, day)
        self.assertEqual(book.bags(), (("clay", 5), ("clay", 6), ("flint", 5)))

    def test_zero_and_one_told_before_are_no_truths(self):
        book = Book()
        book.new_bag("clay", 0)
        book.new_bag("clay", 1)
        self.assertRaises(NoDay, book.new_bag, "clay", False)
        self.assertRaises(NoDay, book.new_bag, "clay", True)

    def test_the_families(self):
        book = Book()
        book.new_bag("clay", 5)
        for refusal, stuff, day in ((NoName, "", 5), (NoDay, "clay", -1), (Twice, "clay", 5)):
            with self.assertRaises(ToldError) as caught:
                book.new_bag(stuff, day)
            self.assertIs(type(caught.exception), refusal)
            self.assertIsInstance(caught.exception, GlazeError)
            self.assertNotIsInstance(caught.exception, AskedError)


class TakeBackTest(Refusals):
    def test_nothing(self):
        book = Book()
        for _ in range(2):
            with self.assertRaises(AskedError) as caught:
                book.take_back()
            self.assertIs(type(caught.exception), Nothing)
            self.assertIsInstance(caught.exception, GlazeError)
            self.assertNotIsInstance(caught.exception, ToldError)
        self.assertEqual(book, Book())

    def test_a_trial(self):
        book = Book()
        book.tell(trial())
        self.assertIsNone(book.take_back())
        self.assertEqual(book, Book())
        self.assertEqual((len(book), book.trials()), (0, []))
        self.assertRaises(Nothing, book.take_back)

    def test_a_list(self):
        book = Book()
        book.tell(trial(number=2))
        book.join([trial(number=1), trial(number=2), trial(number=3)])
        book.take_back()
        self.assertEqual(book.trials(), [trial(number=2)])
        book.take_back()
        self.assertRaises(Nothing, book.take_back)

    def test_a_bag(self):
        book = Book()
        book.new_bag("clay", 5)
        book.new_bag("clay", 4)
        book.take_back()
        self.assertEqual(book.bags(), (("clay", 5),))
        book.take_back()
        self.assertEqual(book.bags(), ())
        self.assertRaises(Nothing, book.take_back)

    def test_what_told_nothing_new(self):
        book = Book()
        book.tell(trial())
        book.tell(trial())
        book.join([trial(), trial()])
        for _ in range(2):
            book.take_back()
            self.assertEqual(book.trials(), [trial()])
        book.take_back()
        self.assertEqual(book.trials(), [])
        self.assertRaises(Nothing, book.take_back)

    def test_an_empty_list(self):
        book = Book()
        book.join([])
        book.take_back()
        self.assertRaises(Nothing, book.take_back)
        book.new_bag("clay", 5)
        book.join([])
        book.take_back()
        self.assertEqual(book.bags(), (("clay", 5),))

    def test_behind_a_refused_deed(self):
        book = Book()
        book.tell(trial())
        book.new_bag("clay", 5)
        self.assert_clash("north", 1, book.tell, trial(measure=1))
        self.assert_clash("north", 1, book.join, [trial(number=2), trial(measure=1)])
        self.assertRaises(Twice, book.new_bag, "clay", 5)
        self.assertRaises(NoName, book.new_bag, "", 5)
        self.assertRaises(NoDay, book.new_bag, "clay", -1)
        self.assertRaises(NoChange, book.did, ("fire", "hot", "hot"))
        book.take_back()
        self.assertEqual((book.trials(), book.bags()), ([trial()], ()))
        book.take_back()
        self.assertEqual(book, Book())
        self.assertRaises(Nothing, book.take_back)

    def test_what_is_asked_is_no_deed(self):
        book = Book()
        book.tell(trial())
        for ask in (book.trials, book.bags, book.pairs, book.ranked, book.__str__, book.__len__):
            ask()
        book.did(("fire", "hot", "cold"))
        book.take_back()
        self.assertRaises(Nothing, book.take_back)

    def test_told_anew_behind_that(self):
        book = Book()
        book.tell(trial())
        book.new_bag("clay", 5)
        book.take_back()
        book.take_back()
        book.new_bag("clay", 5)
        self.assertIs(book.tell(trial(measure=1)), True)
        self.assert_clash("north", 1, book.tell, trial())
        self.assertRaises(Twice, book.new_bag, "clay", 5)
        self.assertEqual((book.trials(), book.bags()), ([trial(measure=1)], (("clay", 5),)))

    def test_a_trial_that_a_later_list_told_again_stays(self):
        book = Book()
        book.join([trial(number=1), trial(number=2)])
        book.join([trial(number=2), trial(number=3)])
        book.take_back()
        self.assertEqual(keys_of(book.trials()), [("north", 1), ("north", 2)])

    def test_two_hundred_deeds_to_the_very_first(self):
        chance = random.Random(20)
        for _ in range(12):
            book = Book()
            past = []
            for at in range(200):
                past.append((book.trials(), book.bags()))
                choice = chance.randrange(3)
                if choice == 0:
                    book.tell(trial(number=chance.randint(1, 40)))
                elif choice == 1:
                    book.join([trial(number=chance.randint(1, 40)) for _ in range(chance.randint(0, 3))])
                else:
                    book.new_bag("clay", at)
            for trials, bags in reversed(past):
                book.take_back()
                self.assertEqual((book.trials(), book.bags()), (trials, bags))
            self.assertRaises(Nothing, book.take_back)

    def test_what_was_taken_back_was_never_told(self):
        chance = random.Random(21)
        for _ in range(150):
            book = Book()
            kept = []
            for _ in range(chance.randint(1, 40)):
                if chance.random() < 0.4 and kept:
                    kept.pop()
                    book.take_back()
                    continue
                deed = self.some_deed(chance)
                try:
                    deed(book)
                    kept.append(deed)
                except ToldError:
                    pass
            other = Book()
            for deed in kept:
                deed(other)
            self.assertEqual(book, other)
            self.assertEqual((book.trials(), book.bags(), str(book)), (other.trials(), other.bags(), str(other)))
            for _ in kept:
                book.take_back()
            self.assertEqual(book, Book())
            self.assertRaises(Nothing, book.take_back)

    @staticmethod
    def some_deed(chance):
        told = [trial(house=chance.choice("ab"), number=chance.randint(1, 4), measure=chance.choice((5, 5, 5, 6)))
                for _ in range(chance.randint(0, 3))]
        bag = (chance.choice(("clay", "flint", "")), chance.randint(0, 3))
        if chance.random() < 0.3:
            return lambda book: book.new_bag(*bag)
        if len(told) == 1:
            return lambda book: book.tell(told[0])
        return lambda book: book.join(told)


class ToldTest(unittest.TestCase):
    def test_trials_rise_in_whatever_order_they_were_told(self):
        told = [trial(house="b", number=10), trial(house="b", number=9), trial(house="a", number=20)]
        for order in permutations(told):
            book = Book()
            for one in order:
                book.tell(one)
            self.assertEqual(keys_of(book.trials()), [("a", 20), ("b", 9), ("b", 10)])
            self.assertEqual(book.trials(), joined([told]))

    def test_bags_rise_in_whatever_order_they_were_told(self):
        told = [("flint", 3), ("clay", 20), ("clay", 9), ("ash", 10 ** 6)]
        for order in permutations(told):
            book = Book()
            for stuff, day in order:
                book.new_bag(stuff, day)
            self.assertEqual(book.bags(), (("ash", 10 ** 6), ("clay", 9), ("clay", 20), ("flint", 3)))

    def test_an_empty_book(self):
        book = Book()
        self.assertEqual((book.trials(), book.bags(), book.pairs()), ([], (), []))
        self.assertEqual(book.ranked(), ("order", []))
        self.assertEqual(book.did(("fire", "hot", "cold")), ("none",))
        self.assertEqual(len(book), 0)

    def test_pairs_did_and_ranked_by_its_trials_and_bags(self):
        book = Book()
        book.tell(trial(number=3, day=20, fire="cold", measure=60))
        book.tell(trial(number=2, day=20, place="floor", measure=70))
        book.tell(trial(number=1, day=20, measure=50))
        book.tell(trial(house="east", day=5))
        self.assertEqual(book.pairs(), [(0, 2, "place"), (0, 3, "fire"), (1, 2, "place"), (1, 3, "fire")])
        book.new_bag("flint", 20)
        self.assertEqual(book.pairs(), [(0, 1, "bag flint"), (1, 2, "place"), (1, 3, "fire")])
        self.assertEqual(book.did(("fire", "hot", "cold")), ("sure", "more", [(1, 3)]))
        self.assertEqual(book.did(("place", "floor", "top")), ("sure", "less", [(2, 1)]))
        self.assertEqual(book.ranked(), ("order", ["floor", "top"]))

    def test_a_change_of_mixes(self):
        book = Book()
        book.join([trial(number=1, mix=CLAY, measure=5), trial(number=2, measure=4)])
        self.assertEqual(book.did(("mix", BOTH, CLAY)), ("sure", "more", [(1, 0)]))

    def test_no_change_of_any_tuple(self):
        book = Book()
        book.tell(trial())
        for change in ((), ("fire",), ("fire", "hot", "hot"), ("fire", "hot", ""), ("mix", "a", "b"), ("bag", "a", "b"),
                       ("mix", CLAY, CLAY), ("fire", "hot", "cold", "warm"), (None,) * 3, ("place", [], ())):
            self.assertRaises(NoChange, book.did, change)
        self.assertEqual(book.trials(), [trial()])

    def test_against_the_functions_of_the_same_names(self):
        chance = random.Random(22)
        for _ in range(150):
            book = Book()
            for _ in range(chance.randint(0, 14)):
                book.join([trial(house=chance.choice("ab"), number=chance.randint(1, 10 ** 6), day=chance.randint(0, 3),
                                 mix=chance.choice((CLAY, BOTH)), fire=chance.choice(("hot", "cold", "warm")),
                                 place=chance.choice(("top", "floor", "door")), measure=chance.randint(0, 9))])
            for bag in product(("clay", "flint"), range(4)):
                if chance.random() < 0.1:
                    book.new_bag(*bag)
            trials, bags = book.trials(), book.bags()
            self.assertEqual(book.pairs(), trials_module.pairs(trials, bags))
            self.assertEqual(book.ranked(), doings.ranked(trials, bags))
            for change in (("fire", "hot", "cold"), ("place", "top", "floor"), ("mix", CLAY, BOTH)):
                self.assertEqual(book.did(change), doings.did(trials, change, bags))

    def test_a_ring(self):
        book = Book()
        number = 0
        for worse, better, fire in (("back", "door", "hot"), ("door", "floor", "warm"), ("floor", "back", "cold")):
            for place, measure in ((worse, 5), (better, 6)):
                number += 1
                book.tell(trial(number=number, fire=fire, place=place, measure=measure))
        told = book.ranked()
        self.assertEqual(told, doings.ranked(book.trials(), book.bags()))
        self.assertEqual((told[0], sorted(told[1])), ("ring", ["back", "door", "floor"]))
        book.take_back()
        self.assertEqual(book.ranked(), ("order", ["floor", "door", "back"]))

    def test_the_length(self):
        book = Book()
        for many in range(1, 6):
            book.tell(trial(number=many))
            book.tell(trial(number=1))
            book.new_bag("clay", many)
            self.assertEqual(len(book), many)

    def test_three_hundred_trials(self):
        book = Book()
        told = [trial(house="abc"[at // 100], number=at + 1) for at in range(300)]
        self.assertEqual(book.join(told[::-1]), 300)
        self.assertEqual((len(book), book.trials()), (300, told))
        book.tell(trial(house="d"))
        self.assertEqual(len(book), 301)

    def test_amounts_of_any_figures(self):
        book = Book()
        great = blend([CLAY, mixed("flint 1")], [BEYOND, BEYOND + 1])
        book.tell(trial(mix=great))
        self.assertEqual(book.trials()[0].mix.least(), (("clay", BEYOND), ("flint", BEYOND + 1)))
        self.assertIs(book.tell(book.trials()[0]), False)


class TextTest(unittest.TestCase):
    def test_the_text(self):
        book = Book()
        self.assertEqual(str(book), "0 trials of 0 houses, 0 bags")
        book.join([trial(house="a"), trial(house="a", number=2), trial(house="b")])
        book.new_bag("clay", 5)
        self.assertEqual(str(book), "3 trials of 2 houses, 1 bags")
        book.take_back()
        book.take_back()
        self.assertEqual(str(book), "0 trials of 0 houses, 0 bags")

    def test_one_of_each_and_many(self):
        book = Book()
        book.tell(trial())
        self.assertEqual(str(book), "1 trials of 1 houses, 0 bags")
        book.join([trial(house=house, number=number) for house in "abcdefghijkl" for number in (1, 2)])
        for day in range(11):
            book.new_bag("clay", day)
        self.assertEqual(str(book), "25 trials of 13 houses, 11 bags")
        self.assertEqual(f"{book}", str(book))


class EqualTest(unittest.TestCase):
    def assert_equal(self, one, other):
        self.assertIs(one == other, True)
        self.assertIs(one != other, False)

    def assert_unlike(self, one, other):
        self.assertIs(one == other, False)
        self.assertIs(other == one, False)
        self.assertIs(one != other, True)

    def test_empty_ones(self):
        self.assert_equal(Book(), Book())

    def test_by_other_ways(self):
        one, other = Book(), Book()
        one.join([trial(number=1), trial(number=2)])
        one.new_bag("clay", 5)
        one.new_bag("ash", 5)
        other.new_bag("ash", 5)
        other.tell(trial(number=2, mix=mixed("clay 75, flint 25")))
        other.new_bag("clay", 5)
        other.tell(trial(number=3))
        other.take_back()
        other.tell(trial(number=1))
        other.tell(trial(number=1))
        self.assert_equal(one, other)

    def test_unlike_by_a_trial(self):
        one, other = Book(), Book()
        one.tell(trial())
        self.assert_unlike(one, other)
        other.tell(trial(number=2))
        self.assert_unlike(one, other)
        for field, thing in OTHERS.items():
            unlike = Book()
            unlike.tell(trial(**{field: thing}))
            self.assert_unlike(one, unlike)

    def test_unlike_by_a_bag(self):
        one, other = Book(), Book()
        one.new_bag("clay", 5)
        self.assert_unlike(one, other)
        other.new_bag("clay", 6)
        self.assert_unlike(one, other)
        other.take_back()
        other.new_bag("flint", 5)
        self.assert_unlike(one, other)
        one.new_bag("flint", 5)
        other.new_bag("clay", 5)
        self.assert_equal(one, other)

    def test_against_other_things(self):
        for book in (Book(), self.made()):
            for thing in (*THINGS, trial(), CLAY, [trial()], book.trials(), book.bags(), str(book), len(book), {}):
                self.assert_unlike(book, thing)

    @staticmethod
    def made():
        book = Book()
        book.tell(trial())
        return book


class OwnTest(unittest.TestCase):
    def setUp(self):
        self.book = Book()
        self.book.join([trial(number=1), trial(number=2, fire="cold"), trial(number=3, place="floor", measure=60)])
        self.book.new_bag("clay", 5)

    def asked(self):
        return (self.book.trials(), self.book.bags(), self.book.pairs(), self.book.ranked(),
                self.book.did(("fire", "hot", "cold")), len(self.book), str(self.book))

    def test_what_is_done_to_told_lists(self):
        before = self.asked()
        trials, _, pairs, ranked, did, _, _ = self.asked()
        trials.reverse()
        trials.pop()
        pairs.append(None)
        ranked[1].clear()
        did[2].clear()
        self.assertEqual(self.asked(), before)

    def test_what_is_done_to_told_trials(self):
        before = self.asked()
        for field, thing in (("house", "x"), ("number", 9), ("day", 0), ("mix", CLAY), ("fire", "warm"),
                             ("place", "door"), ("look", "dull"), ("measure", 0)):
            for one in self.book.trials():
                setattr(one, field, thing)
            self.assertEqual(self.asked(), before)
        self.assertEqual(len(FIELDS), 8)

    def test_lists_told_are_new_ones(self):
        self.assertIsNot(self.book.trials(), self.book.trials())
        self.assertIsNot(self.book.trials()[0], self.book.trials()[0])
        self.assertIsNot(self.book.pairs(), self.book.pairs())
        self.assertIsNot(self.book.ranked()[1], self.book.ranked()[1])

    def test_two_books_share_nothing(self):
        other = Book()
        self.assertEqual(len(other), 0)
        other.join(self.book.trials())
        self.book.take_back()
        self.book.take_back()
        self.assertEqual((len(self.book), len(other)), (0, 3))


class InterfaceTest(unittest.TestCase):
    def test_names_of_arguments(self):
        self.assertEqual(str(inspect.signature(books.joined)), "(lists)")
        self.assertEqual(str(inspect.signature(Book)), "()")
        for name, arguments in (("tell", "(self, trial)"), ("join", "(self, trials)"), ("take_back", "(self)"),
                                ("new_bag", "(self, stuff, day)"), ("trials", "(self)"), ("bags", "(self)"),
                                ("pairs", "(self)"), ("did", "(self, change)"), ("ranked", "(self)"),
                                ("__len__", "(self)"), ("__eq__", "(self, other)"), ("__str__", "(self)")):
            self.assertEqual(str(inspect.signature(vars(Book)[name])), arguments, name)

    def test_by_name(self):
        book = Book()
        self.assertIs(book.tell(trial=trial()), True)
        self.assertEqual(book.join(trials=[trial()]), 0)
        book.new_bag(day=5, stuff="clay")
        self.assertEqual(book.did(change=("fire", "hot", "cold")), ("none",))
        self.assertEqual(joined(lists=[[trial()]]), book.trials())
