import inspect
import random
import unittest

from glazetold.desk import Desk
from glazetold.errors import (AskedError, Clash, GlazeError, NoChange, NoDay, NoName, NoRow, NoText, NoWeights, Nothing,
                              ToldError, Twice)
from glazetold.texts import mix_text, read_mix, trial_text
from glazetold.trials import parts
from tests.anything import THINGS
from tests.made import trial

ROW = "trial north 1 10 clay:3+flint:1 hot top glossy 50"
# Each row that the desk is told of, with as many words as it has.
ROWS = (ROW, "bag clay 5", "back", "pairs", "did fire hot cold", "did place top floor", "did mix clay:1 flint:1", "ranked",
        "parts clay", "blend clay:1 1 flint:1 1", "book")
WRONG_NUMBERS = ("", "00", "01", "-1", "-0", "+1", "1.0", "1e3", "x", "one", "1000000000", "9" * 10, "0" * 10, "9" * 1900,
                 "1\n", "\u0663", "\u00b2", "1,0", "0x1", "1_0")
WRONG_NAMES = ("", "Clay", "clay1", "1", "abcdefghi", "cl-ay", "clay\n", "~", "clay:1", "a" * 1900)


def told(*rows):
    """A desk that was told the rows."""
    desk = Desk()
    for row in rows:
        desk.say(row)
    return desk


def row_of(**parts_told):
    return "trial " + trial_text(trial(**parts_told))


class Desks(unittest.TestCase):
    def assert_says(self, desk, row, answer):
        said = desk.say(row)
        self.assertIs(type(said), str)
        self.assertEqual(said, answer)

    def assert_refused(self, refusal, desk, row):
        """Refused so, and nothing is changed by it."""
        before = self.state(desk)
        with self.assertRaises(GlazeError) as caught:
            desk.say(row)
        self.assertIs(type(caught.exception), refusal, row)
        self.assertEqual(self.state(desk), before)
        return caught.exception

    @staticmethod
    def state(desk):
        return [desk.say(row) for row in ("book", "pairs", "ranked", "parts clay", "did fire hot cold")]


class TrialTest(Desks):
    def test_new_and_known(self):
        desk = Desk()
        self.assert_says(desk, ROW, "new")
        self.assert_says(desk, ROW, "known")
        self.assert_says(desk, ROW.replace("clay:3+flint:1", "flint:25+clay:75"), "known")
        self.assert_says(desk, row_of(number=2), "new")
        self.assert_says(desk, row_of(house="south"), "new")
        self.assert_says(desk, "book", "3 trials of 2 houses, 0 bags")

    def test_a_house_called_as_a_row(self):
        desk = Desk()
        for house in ("trial", "bag", "back", "pairs", "did", "ranked", "parts", "blend", "book"):
            self.assert_says(desk, row_of(house=house), "new")

    def test_words_too_few_and_too_many(self):
        words = ROW.split(" ")
        for many in range(1, 9):
            self.assert_refused(NoRow, Desk(), " ".join(words[:many]))
        self.assert_refused(NoRow, Desk(), ROW + " 5")
        self.assert_refused(NoRow, Desk(), ROW[len("trial "):])

    def test_blanks(self):
        for row in (" " + ROW, ROW + " ", ROW.replace(" hot", "  hot"), "  " + ROW):
            self.assert_refused(NoRow, Desk(), row)

    def test_an_empty_word_is_a_word(self):
        # So many words as a trial has, one of them empty.
        words = ROW.split(" ")
        for at in range(1, 9):
            self.assert_refused(NoText, Desk(), " ".join(words[:at] + [""] + words[at + 1:]))

    def test_no_trial(self):
        words = ROW.split(" ")
        for at in (2, 3, 8):
            for word in WRONG_NUMBERS + ("1000001",):
                refusal = self.assert_refused(NoText, Desk(), " ".join(words[:at] + [word] + words[at + 1:]))
                self.assertIsNone(refusal.line)
        for at in (1, 5, 6, 7):
            for word in WRONG_NAMES:
                self.assert_refused(NoText, Desk(), " ".join(words[:at] + [word] + words[at + 1:]))
        for word in ("clay", "clay:0", "clay:1+clay:1", "clay:01", "clay:1000000000"):
            self.assert_refused(NoText, Desk(), " ".join(words[:4] + [word] + words[5:]))

    def test_a_clash(self):
        desk = told(ROW)
        refusal = self.assert_refused(Clash, desk, row_of(measure=51))
        self.assertEqual((refusal.house, refusal.number), ("north", 1))
        # What is no trial is refused ahead of what the book would refuse.
        self.assert_refused(NoText, desk, row_of(measure=51).replace("glossy", "Glossy"))


class BagTest(Desks):
    def test_ok(self):
        desk = Desk()
        for row in ("bag clay 5", "bag clay 0", "bag clay 1000000", "bag a 7", "bag abcdefgh 7", "bag bag 7"):
            self.assert_says(desk, row, "ok")
        self.assert_says(desk, "book", "0 trials of 0 houses, 6 bags")

    def test_words_and_blanks(self):
        for row in ("bag", "bag clay", "bag clay 5 5", " bag clay 5", "bag clay 5 ", "bag  clay 5", "bag clay  5", "bag "):
            self.assert_refused(NoRow, Desk(), row)

    def test_no_number(self):
        for word in WRONG_NUMBERS:
            self.assert_refused(NoRow, Desk(), f"bag clay {word}")

    def test_no_name(self):
        for word in WRONG_NAMES:
            self.assert_refused(NoName, Desk(), f"bag {word} 5")

    def test_no_day(self):
        for word in ("1000001", "999999999"):
            self.assert_refused(NoDay, Desk(), f"bag clay {word}")

    def test_twice(self):
        desk = told("bag clay 5")
        self.assert_refused(Twice, desk, "bag clay 5")
        self.assert_says(desk, "bag clay 6", "ok")
        self.assert_says(desk, "bag flint 5", "ok")

    def test_two_things_wrong(self):
        desk = told("bag clay 5")
        self.assert_refused(NoRow, desk, "bag Clay 05")
        self.assert_refused(NoRow, desk, "bag Clay x")
        self.assert_refused(NoName, desk, "bag Clay 1000001")
        self.assert_refused(NoRow, desk, "bag clay 05")


class BackTest(Desks):
    def test_nothing(self):
        refusal = self.assert_refused(Nothing, Desk(), "back")
        self.assertIsInstance(refusal, AskedError)

    def test_each_kind_of_deed(self):
        desk = told("bag clay 5", ROW, ROW, row_of(number=2))
        for answer in ("1 trials of 1 houses, 1 bags", "1 trials of 1 houses, 1 bags", "0 trials of 0 houses, 1 bags",
                       "0 trials of 0 houses, 0 bags"):
            self.assert_says(desk, "back", "ok")
            self.assert_says(desk, "book", answer)
        self.assert_refused(Nothing, desk, "back")
        self.assert_says(desk, ROW, "new")
        self.assert_says(desk, "bag clay 5", "ok")

    def test_what_was_refused_or_asked_is_not_taken_back(self):
        desk = told("bag clay 5", ROW)
        for row in ("bag clay 5", row_of(measure=51), "bag Clay 5", "wrong", "did fire hot hot", "blend clay:1 0 ash:1 0"):
            with self.assertRaises(GlazeError):
                desk.say(row)
        for row in ("pairs", "ranked", "book", "parts clay", "did fire hot cold", "blend clay:1 1 ash:1 1"):
            desk.say(row)
        self.assert_says(desk, "back", "ok")
        self.assert_says(desk, "book", "0 trials of 0 houses, 1 bags")
        self.assert_says(desk, "back", "ok")
        self.assert_refused(Nothing, desk, "back")


class PairsTest(Desks):
    def test_none(self):
        self.assert_says(Desk(), "pairs", "none")
        self.assert_says(told(ROW, row_of(number=2)), "pairs", "none")

    def test_things(self):
        desk = told(row_of(number=1), row_of(number=2, fire="cold"), row_of(number=3, place="floor"))
        self.assert_says(desk, "pairs", "0:1:fire 0:2:place")
        desk = told(row_of(number=1), row_of(number=2, mix=read_mix("clay:1")))
        self.assert_says(desk, "pairs", "0:1:mix")

    def test_the_blank_of_a_thing(self):
        desk = told(row_of(number=1), row_of(number=2, day=20), "bag clay 15")
        self.assert_says(desk, "pairs", "0:1:bag-clay")
        desk.say("bag flint 16")
        self.assert_says(desk, "pairs", "none")
        desk.say("back")
        self.assert_says(desk, "pairs", "0:1:bag-clay")

    def test_places_are_those_of_the_book(self):
        desk = told(row_of(house="z", fire="cold"), row_of(house="b", number=10), row_of(house="b", number=9))
        self.assert_says(desk, "pairs", "0:2:fire 1:2:fire")

    def test_more_than_ten(self):
        desk = told(*[row_of(number=at + 1) for at in range(11)], row_of(number=12, fire="cold"))
        self.assert_says(desk, "pairs", " ".join(f"{at}:11:fire" for at in range(11)))


class DidTest(Desks):
    def test_none(self):
        for row in ("did fire hot cold", "did place top floor", "did mix clay:1 flint:1"):
            self.assert_says(Desk(), row, "none")
            self.assert_says(told(ROW), row, "none")

    def test_sure(self):
        desk = told(row_of(number=1), row_of(number=2, fire="cold", measure=60), row_of(number=3, place="floor", measure=40),
                    row_of(number=4, mix=read_mix("clay:1")))
        self.assert_says(desk, "did fire hot cold", "sure more")
        self.assert_says(desk, "did fire cold hot", "sure less")
        self.assert_says(desk, "did place top floor", "sure less")
        self.assert_says(desk, "did place floor top", "sure more")
        self.assert_says(desk, "did mix clay:75+flint:25 clay:9", "sure same")
        self.assert_says(desk, "did mix clay:1 flint:1+clay:3", "sure same")

    def test_of_several_pairs_only_the_word(self):
        desk = told(row_of(number=1), row_of(number=2), row_of(number=3, fire="cold", measure=60))
        self.assert_says(desk, "did fire hot cold", "sure more")

    def test_open(self):
        desk = told(row_of(number=1), row_of(number=2, fire="cold", measure=60), row_of(number=3, fire="cold", measure=50))
        self.assert_says(desk, "did fire hot cold", "open 0:1 0:2")
        self.assert_says(desk, "did fire cold hot", "open 1:0 2:0")

    def test_a_fire_and_a_place_are_asked_for_by_their_words(self):
        desk = told(row_of(number=1, fire="a", place="a"), row_of(number=2, fire="b", place="a", measure=60))
        self.assert_says(desk, "did fire a b", "sure more")
        self.assert_says(desk, "did place a b", "none")

    def test_by_the_books_bags(self):
        desk = told(row_of(number=1), row_of(number=2, day=20, fire="cold"), "bag clay 15")
        self.assert_says(desk, "did fire hot cold", "none")
        desk.say("back")
        self.assert_says(desk, "did fire hot cold", "sure same")

    def test_words_and_blanks(self):
        for thing in ("fire hot cold", "place top floor", "mix clay:1 flint:1"):
            words = thing.split(" ")
            for row in ("did", "did " + " ".join(words[:1]), "did " + " ".join(words[:2]), f"did {thing} more",
                        f" did {thing}", f"did {thing} ", f"did  {thing}", f"did {words[0]}  {words[1]} {words[2]}"):
                self.assert_refused(NoRow, Desk(), row)

    def test_no_such_thing(self):
        for thing in ("", "bag", "look", "house", "measure", "day", "Fire", "FIRE", "mixes", "none"):
            self.assert_refused(NoRow, Desk(), f"did {thing} hot cold")
            self.assert_refused(NoRow, Desk(), f"did {thing} clay:0 clay:0")

    def test_one_and_other_alike(self):
        for row in ("did fire hot hot", "did place top top", "did mix clay:1 clay:1", "did mix clay:75+flint:25 flint:1+clay:3"):
            self.assert_refused(NoChange, told(ROW), row)

    def test_no_names(self):
        for word in WRONG_NAMES:
            for thing in ("fire", "place"):
                self.assert_refused(NoChange, Desk(), f"did {thing} {word} hot")
                self.assert_refused(NoChange, Desk(), f"did {thing} hot {word}")

    def test_empty_words(self):
        for row in ("did fire  hot", "did fire hot ", "did fire  ", "did place  top"):
            self.assert_refused(NoChange, Desk(), row)
        for row in ("did mix  clay:1", "did mix clay:1 ", "did mix  "):
            self.assert_refused(NoText, Desk(), row)

    def test_no_mixes(self):
        for word in ("clay", "clay:0", "clay:01", "clay:1000000000", "clay:1+clay:1", "hot", "Clay:1", "clay:1+"):
            self.assert_refused(NoText, Desk(), f"did mix {word} clay:1")
            self.assert_refused(NoText, Desk(), f"did mix clay:1 {word}")
            self.assert_refused(NoText, Desk(), f"did mix {word} {word}")


class RankedTest(Desks):
    def test_order_alone(self):
        self.assert_says(Desk(), "ranked", "order")

    def test_order(self):
        self.assert_says(told(ROW), "ranked", "order top")
        desk = told(row_of(number=1), row_of(number=2, place="floor"), row_of(number=3, place="door", measure=60))
        self.assert_says(desk, "ranked", "order door floor top")
        desk.say(row_of(number=4, place="up", measure=70))
        self.assert_says(desk, "ranked", "order up door floor top")

    def test_ring(self):
        desk = told(row_of(number=1, fire="a", place="back", measure=5), row_of(number=2, fire="a", place="door", measure=6),
                    row_of(number=3, fire="b", place="door", measure=5), row_of(number=4, fire="b", place="floor", measure=6),
                    row_of(number=5, fire="c", place="floor", measure=5), row_of(number=6, fire="c", place="back", measure=6))
        word, *places = desk.say("ranked").split(" ")
        self.assertEqual((word, sorted(places)), ("ring", ["back", "door", "floor"]))
        at = places.index("back")
        # The floor is worse than the back, the door worse than the floor.
        self.assertEqual((places * 2)[at:at + 3], ["back", "floor", "door"])
        self.assert_says(desk, "ranked", " ".join([word] + places))


class PartsTest(Desks):
    def test_none(self):
        self.assert_says(Desk(), "parts clay", "none")
        self.assert_says(told(ROW), "parts ash", "none")

    def test_bags(self):
        desk = told(row_of(number=1, day=5), row_of(number=2, day=15), row_of(number=3, day=25),
                    row_of(number=4, day=25, mix=read_mix("flint:1")))
        self.assert_says(desk, "parts clay", "0:0,1,2")
        desk.say("bag clay 15")
        self.assert_says(desk, "parts clay", "0:0 1:1,2")
        self.assert_says(desk, "parts flint", "0:0,1,2,3")
        desk.say("bag clay 16")
        self.assert_says(desk, "parts clay", "0:0 1:1 2:2")
        desk.say("bag clay 3")
        self.assert_says(desk, "parts clay", "1:0 2:1 3:2")

    def test_of_any_word(self):
        desk = told(ROW)
        for word in WRONG_NAMES + ("clay,", "+", "0"):
            self.assert_says(desk, f"parts {word}", "none")

    def test_an_empty_word(self):
        self.assert_says(told(ROW), "parts ", "none")

    def test_words_and_blanks(self):
        for row in ("parts", "parts clay flint", " parts clay", "parts clay ", "parts  clay", "parts  "):
            self.assert_refused(NoRow, told(ROW), row)

    def test_against_the_function(self):
        chance = random.Random(25)
        for _ in range(40):
            mixes = [read_mix(chance.choice(("clay:1", "clay:1+flint:1", "flint:1"))) for _ in range(13)]
            trials = [trial(number=at + 1, day=chance.randint(0, 9), mix=mix) for at, mix in enumerate(mixes)]
            bags = tuple(("clay", day) for day in range(10) if chance.random() < 0.3)
            rows = [f"trial {trial_text(one)}" for one in trials] + [f"bag {stuff} {day}" for stuff, day in bags]
            chance.shuffle(rows)
            answer = [f"{bag}:" + ",".join(map(str, numbers)) for bag, numbers in parts(trials, bags, "clay")]
            self.assert_says(told(*rows), "parts clay", " ".join(answer) or "none")


class BlendTest(Desks):
    def test_the_mix_as_written(self):
        desk = Desk()
        self.assert_says(desk, "blend clay:1 3 flint:1 1", "clay:3+flint:1")
        self.assert_says(desk, "blend flint:7 1 clay:9 3", "clay:3+flint:1")
        self.assert_says(desk, "blend clay:3+flint:1 1 clay:1+flint:1 1", "clay:5+flint:3")
        self.assert_says(desk, "blend clay:2 5 clay:1 0", "clay:1")
        self.assert_says(desk, "blend zinc:1 0 ash:2+clay:4 7", "ash:1+clay:2")
        self.assert_says(desk, "book", "0 trials of 0 houses, 0 bags")

    def test_nine_figures_and_ten(self):
        self.assert_says(Desk(), "blend clay:1 999999999 flint:1 1", "clay:999999999+flint:1")
        self.assert_refused(NoRow, Desk(), "blend clay:1 1000000000 flint:1 1")
        self.assert_says(Desk(), "blend clay:999999999+flint:1 999999999 ash:1 1",
                         "ash:1000000000+clay:999999998000000001+flint:999999999")

    def test_what_is_told_may_have_more_figures_than_are_read(self):
        desk = Desk()
        answer = desk.say("blend clay:999999999+flint:1 999999999 ash:1 1")
        self.assert_refused(NoText, desk, f"blend {answer} 1 clay:1 1")

    def test_weights_nought(self):
        self.assertIsInstance(self.assert_refused(NoWeights, Desk(), "blend clay:1 0 flint:1 0"), AskedError)

    def test_words_and_blanks(self):
        words = "blend clay:1 3 flint:1 1".split(" ")
        for many in range(1, 5):
            self.assert_refused(NoRow, Desk(), " ".join(words[:many]))
        row = " ".join(words)
        for wrong in (row + " ash:1 1", row + " 1", row + " ", " " + row, row.replace(" 3", "  3"), "blend", "blend "):
            self.assert_refused(NoRow, Desk(), wrong)

    def test_no_numbers(self):
        for word in WRONG_NUMBERS:
            self.assert_refused(NoRow, Desk(), f"blend clay:1 {word} flint:1 1")
            self.assert_refused(NoRow, Desk(), f"blend clay:1 1 flint:1 {word}")

    def test_no_mixes(self):
        for word in ("", "clay", "clay:0", "clay:01", "clay:1000000000", "clay:1+clay:1", "Clay:1", "1"):
            self.assert_refused(NoText, Desk(), f"blend {word} 1 flint:1 1")
            self.assert_refused(NoText, Desk(), f"blend clay:1 1 {word} 1")

    def test_two_things_wrong(self):
        self.assert_refused(NoRow, Desk(), "blend clay 1 flint:1 01")
        self.assert_refused(NoRow, Desk(), "blend clay 01 flint 1")
        self.assert_refused(NoRow, Desk(), "blend clay 0 flint x")
        self.assert_refused(NoText, Desk(), "blend clay:1 0 flint 0")
        self.assert_refused(NoText, Desk(), "blend clay 0 flint:1 0")


class RowTest(Desks):
    def test_book(self):
        desk = Desk()
        self.assert_says(desk, "book", "0 trials of 0 houses, 0 bags")
        desk.say(ROW)
        desk.say(row_of(number=2))
        desk.say(row_of(house="south"))
        desk.say("bag clay 5")
        self.assert_says(desk, "book", "3 trials of 2 houses, 1 bags")

    def test_each_row_is_one(self):
        for row in ROWS:
            self.assertIs(type(told(ROW).say(row)), str)

    def test_a_word_too_few_or_too_many(self):
        for row in ROWS:
            self.assert_refused(NoRow, told(ROW), row + " x")
            self.assert_refused(NoRow, told(ROW), row + " " + row)
            self.assert_refused(NoRow, told(ROW), row.rpartition(" ")[0])

    def test_blanks(self):
        for row in ROWS:
            self.assert_refused(NoRow, told(ROW), " " + row)
            self.assert_refused(NoRow, told(ROW), row + " ")
            for at in [at for at, sign in enumerate(row) if sign == " "]:
                self.assert_refused(NoRow, told(ROW), row[:at] + " " + row[at:])

    def test_no_rows(self):
        for row in ("", " ", "  ", "\n", "x", "Book", "BOOK", "book\n", "\nbook", "pairs\n", "books", "boo", "back\r", "tell",
                    "bag\tclay\t5", "order", "none", "ok", "trials", "0", "book,", "~"):
            self.assert_refused(NoRow, told(ROW), row)

    def test_things_that_are_no_texts(self):
        desk = told(ROW)
        for thing in THINGS:
            self.assert_refused(NoRow, desk, thing)
        for thing in ([ROW], (ROW,), ROW.split(" "), ["book"], ("book",), [["book"]], 0, None, True):
            self.assert_refused(NoRow, desk, thing)

    def test_the_family(self):
        refusal = self.assert_refused(NoRow, Desk(), "")
        self.assertIsInstance(refusal, ToldError)
        self.assertNotIsInstance(refusal, AskedError)

    def test_the_same_asked_again(self):
        desk = told(ROW, row_of(number=2, fire="cold", measure=60), "bag clay 5")
        for row in ("book", "pairs", "ranked", "parts clay", "did fire hot cold", "blend clay:1 1 ash:1 1"):
            self.assertEqual(desk.say(row), desk.say(row))

    def test_two_desks_have_books_of_their_own(self):
        one, other = Desk(), Desk()
        one.say(ROW)
        one.say("bag clay 5")
        self.assert_says(other, "book", "0 trials of 0 houses, 0 bags")
        self.assert_refused(Nothing, other, "back")
        self.assert_says(other, row_of(measure=51), "new")
        self.assert_says(other, "bag clay 5", "ok")
        self.assert_says(one, "book", "1 trials of 1 houses, 1 bags")


class InterfaceTest(Desks):
    def test_names_of_arguments(self):
        self.assertEqual(str(inspect.signature(Desk)), "()")
        self.assertEqual(str(inspect.signature(vars(Desk)["say"])), "(self, row)")

    def test_by_name(self):
        self.assertEqual(Desk().say(row="pairs"), "none")

    def test_a_blend_is_told_again(self):
        self.assertEqual(mix_text(read_mix(Desk().say("blend clay:1 3 flint:1 1"))), "clay:3+flint:1")
