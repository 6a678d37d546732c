import inspect
import random
import re
import unittest
from itertools import permutations

from glazetold import texts
from glazetold.blends import blend, line
from glazetold.books import Book
from glazetold.errors import AskedError, Clash, GlazeError, NoText, Nothing, ToldError, Twice
from glazetold.mixes import Mix
from glazetold.texts import book_text, mix_text, read_book, read_mix, read_trial, trial_text
from glazetold.trials import Trial
from tests.anything import THINGS
from tests.made import BEYOND, mixed, trial

CLAY = mixed("clay 1")
STUFFS = [one + other for one in "abcdef" for other in "abcdefghijklmnopqrst"]
ROW = "north 1 10 clay:3+flint:1 hot top glossy 50"
# Each place of a trial that is a number, with its bounds.
NUMBERS = {1: (1, 10 ** 6), 2: (0, 10 ** 6), 7: (0, 1000)}
NAMES = (0, 4, 5, 6)

WRONG_NUMBERS = ("", " ", "00", "01", "007", "-1", "-0", "+1", "+0", "1.0", "1e3", "0x1", "1_0", "1 ", " 1", "1\n", "\t1",
                 "a", "x", "1x", "one", "1000000000", "9" * 10, "0" * 9 + "1", "9" * 2000, "None", "True",
                 "\u0663", "\u00b2", "\uff11", "1\u0663", "\u096a")
WRONG_NAMES = ("", " ", "Hot", "HOT", "hoT", "h1", "1", "abcdefghi", "a" * 2000, "h-ot", "h_ot", "hot\n", "\thot", "`",
               "{", "~", "h\u00e9", "\u00df")


def with_word(at, word, row=ROW):
    words = row.split(" ")
    words[at] = word
    return " ".join(words)


class Refusals(unittest.TestCase):
    def assert_no_text(self, read, text, told=None):
        with self.assertRaises(NoText) as caught:
            read(text)
        self.assertEqual(caught.exception.line, told, text)


class MixTest(Refusals):
    def test_written(self):
        self.assertEqual(mix_text(mixed("clay 3, flint 1")), "clay:3+flint:1")
        self.assertEqual(mix_text(mixed("flint 25, clay 75")), "clay:3+flint:1")
        self.assertEqual(mix_text(mixed("clay 7")), "clay:1")
        self.assertEqual(mix_text(mixed("zinc 10, ash 20, clay 5")), "ash:4+clay:1+zinc:2")

    def test_read(self):
        for text in ("clay:3+flint:1", "flint:1+clay:3", "flint:25+clay:75", "clay:999999999+flint:333333333"):
            mix = read_mix(text)
            self.assertIs(type(mix), Mix)
            self.assertEqual(mix, mixed("clay 3, flint 1"))
        self.assertEqual(read_mix("a:1"), mixed("a 1"))
        self.assertEqual(read_mix("abcdefgh:10+z:20").least(), (("abcdefgh", 1), ("z", 2)))

    def test_stuffs_in_any_order(self):
        for order in permutations(("ash:4", "clay:1", "zinc:2")):
            self.assertEqual(read_mix("+".join(order)), mixed("ash 4, clay 1, zinc 2"))

    def test_written_and_read_back(self):
        chance = random.Random(22)
        for _ in range(300):
            many = chance.randint(1, 60)
            mix = Mix(tuple((stuff, chance.randint(1, 10 ** chance.randint(0, 9) - 1 or 1))
                            for stuff in chance.sample(STUFFS, many)))
            text = mix_text(mix)
            self.assertRegex(text, r"\A[a-z]{1,8}:[1-9][0-9]*(\+[a-z]{1,8}:[1-9][0-9]*)*\Z")
            self.assertEqual(read_mix(text), mix)
            self.assertEqual(mix_text(read_mix(text)), text)

    def test_sixty_stuffs_and_sixty_one(self):
        sixty = "+".join(f"{stuff}:2" for stuff in STUFFS[:60])
        self.assertEqual(len(read_mix(sixty)), 60)
        self.assert_no_text(read_mix, "+".join(f"{stuff}:2" for stuff in STUFFS[:61]))

    def test_nine_figures_and_ten(self):
        self.assertEqual(read_mix("clay:999999999+flint:1").least(), (("clay", 999999999), ("flint", 1)))
        self.assertEqual(read_mix("clay:100000000+flint:1").least(), (("clay", 100000000), ("flint", 1)))
        self.assert_no_text(read_mix, "clay:1000000000+flint:1")
        self.assert_no_text(read_mix, "clay:1000000000")
        self.assert_no_text(read_mix, "flint:1+clay:9999999999")

    def test_wrong_amounts(self):
        for word in ("0",) + WRONG_NUMBERS:
            self.assert_no_text(read_mix, f"clay:{word}")
            self.assert_no_text(read_mix, f"clay:{word}+flint:1")
            self.assert_no_text(read_mix, f"flint:1+clay:{word}")

    def test_wrong_stuffs(self):
        for word in WRONG_NAMES:
            self.assert_no_text(read_mix, f"{word}:1")
            self.assert_no_text(read_mix, f"clay:1+{word}:1")

    def test_each_sign(self):
        for sign in map(chr, range(0, 256)):
            for text in (f"c{sign}:1", f"{sign}c:1"):
                if sign in "abcdefghijklmnopqrstuvwxyz":
                    self.assertEqual(mix_text(read_mix(text)), text)
                else:
                    self.assert_no_text(read_mix, text)
            if sign in "0123456789":
                self.assertEqual(read_mix(f"ash:1+clay:1{sign}").least()[1], ("clay", int("1" + sign)))
            else:
                self.assert_no_text(read_mix, f"ash:1+clay:1{sign}")
                self.assert_no_text(read_mix, f"ash:1+clay:{sign}1")

    def test_stuffs_told_twice(self):
        for text in ("clay:1+clay:1", "clay:1+clay:2", "clay:1+flint:1+clay:1"):
            self.assert_no_text(read_mix, text)

    def test_blanks_and_line_ends(self):
        for text in (" clay:1", "clay:1 ", "clay:1 +flint:1", "clay:1+ flint:1", "clay: 1", "clay :1", "clay:1  +flint:1",
                     "clay:1\n", "\nclay:1", "clay:1+\nflint:1", "clay:1\r", "clay:1\t", "clay 1", "clay 3, flint 1"):
            self.assert_no_text(read_mix, text)

    def test_marks_too_many_and_too_few(self):
        for text in ("", " ", "+", ":", "clay", "clay:", ":1", "1", "clay:1+", "+clay:1", "clay:1++flint:1", "clay::1",
                     "clay:1:1", "clay:1flint:1", "clay1", "clay:1,flint:1", "clay=1", "clay:1-flint:1", "clay:+1"):
            self.assert_no_text(read_mix, text)

    def test_anything(self):
        right = {"clay:3+flint:1": "clay:3+flint:1"}
        for thing in THINGS:
            if type(thing) is str and thing in right:
                self.assertEqual(mix_text(read_mix(thing)), right[thing])
            else:
                self.assert_no_text(read_mix, thing)

    def test_amounts_with_more_than_nine_figures(self):
        great = blend([CLAY, mixed("flint 1")], [10 ** 9, 10 ** 9 + 1])
        self.assertEqual(mix_text(great), "clay:1000000000+flint:1000000001")
        self.assert_no_text(read_mix, mix_text(great))
        self.assertEqual(mix_text(Mix((("clay", 10 ** 39 + 1), ("flint", 2)))), "clay:1" + "0" * 38 + "1+flint:2")

    def test_amounts_of_thousands_of_figures(self):
        great = blend([CLAY, mixed("flint 1")], [BEYOND, 1])
        self.assertEqual(mix_text(great), "clay:1" + "0" * 6000 + "+flint:1")
        self.assertEqual(trial_text(trial(mix=great)), f"north 1 10 clay:1{'0' * 6000}+flint:1 hot top glossy 50")


class TrialTest(Refusals):
    def test_written(self):
        self.assertEqual(trial_text(trial()), ROW)
        made = Trial("a", 10 ** 6, 10 ** 6, mixed("flint 4, clay 2"), "b", "c", "d", 1000)
        self.assertEqual(trial_text(made), "a 1000000 1000000 clay:1+flint:2 b c d 1000")
        self.assertEqual(trial_text(trial(day=0, measure=0)), "north 1 0 clay:3+flint:1 hot top glossy 0")

    def test_read(self):
        made = read_trial(ROW)
        self.assertIs(type(made), Trial)
        self.assertEqual(made, trial())
        self.assertEqual([type(number) for number in (made.number, made.day, made.measure)], [int] * 3)
        self.assertEqual(read_trial(with_word(3, "flint:25+clay:75")), trial())

    def test_each_part_in_its_place(self):
        made = read_trial("house 2 3 mix:1 fire place look 4")
        self.assertEqual(made, Trial("house", 2, 3, mixed("mix 1"), "fire", "place", "look", 4))

    def test_written_and_read_back(self):
        chance = random.Random(23)
        for _ in range(200):
            names = ["".join(chance.choices("abcdefghijklmnopqrstuvwxyz", k=chance.randint(1, 8))) for _ in range(4)]
            mix = Mix(tuple((stuff, chance.randint(1, 999999999)) for stuff in chance.sample(STUFFS, 5)))
            made = Trial(names[0], chance.randint(1, 10 ** 6), chance.randint(0, 10 ** 6), mix, *names[1:],
                         chance.randint(0, 1000))
            self.assertEqual(read_trial(trial_text(made)), made)

    def test_numbers_at_their_bounds_and_one_beyond(self):
        for at, (least, most) in NUMBERS.items():
            for number in (least, least + 1, most - 1, most):
                text = with_word(at, str(number))
                self.assertEqual(trial_text(read_trial(text)), text)
            for number in (least - 1, most + 1, 999999999):
                self.assert_no_text(read_trial, with_word(at, str(number)))

    def test_wrong_numbers(self):
        for at in NUMBERS:
            for word in WRONG_NUMBERS:
                self.assert_no_text(read_trial, with_word(at, word))

    def test_wrong_names(self):
        for at in NAMES:
            for word in WRONG_NAMES:
                self.assert_no_text(read_trial, with_word(at, word))

    def test_wrong_mixes(self):
        for word in ("", "clay", "clay:0", "clay:1+clay:1", "clay:01", "clay:1000000000", "Clay:1", "clay:1+", "clay 1"):
            self.assert_no_text(read_trial, with_word(3, word))

    def test_words_too_few_and_too_many(self):
        words = ROW.split(" ")
        for many in range(8):
            self.assert_no_text(read_trial, " ".join(words[:many]))
        self.assert_no_text(read_trial, ROW + " 5")
        self.assert_no_text(read_trial, "trial " + ROW)
        self.assert_no_text(read_trial, "bag clay 5")

    def test_blanks_and_line_ends(self):
        for text in (" " + ROW, ROW + " ", ROW.replace(" hot", "  hot"), ROW + "\n", "\n" + ROW, ROW.replace(" ", "\t"),
                     ROW.replace(" hot", "\nhot"), ROW + "\n" + ROW, ROW + "\r", ROW.replace(" ", "")):
            self.assert_no_text(read_trial, text)

    def test_anything(self):
        for thing in THINGS:
            self.assert_no_text(read_trial, thing)
        for thing in ([ROW], (ROW,), tuple(ROW.split(" ")), ROW.split(" ")):
            self.assert_no_text(read_trial, thing)


class BookWrittenTest(unittest.TestCase):
    def test_an_empty_book(self):
        self.assertEqual(book_text(Book()), "")

    def test_bags_ahead_and_all_rising(self):
        book = Book()
        book.join([trial(house="b", number=10), trial(house="b", number=9), trial(house="a", number=100)])
        book.new_bag("flint", 3)
        book.new_bag("clay", 20)
        book.new_bag("clay", 9)
        self.assertEqual(book_text(book).split("\n"), [
            "bag clay 9", "bag clay 20", "bag flint 3",
            "a 100 10 clay:3+flint:1 hot top glossy 50",
            "b 9 10 clay:3+flint:1 hot top glossy 50",
            "b 10 10 clay:3+flint:1 hot top glossy 50",
        ])

    def test_bags_alone_and_trials_alone(self):
        book = Book()
        book.new_bag("clay", 0)
        self.assertEqual(book_text(book), "bag clay 0")
        book.take_back()
        book.tell(trial())
        self.assertEqual(book_text(book), ROW)

    def test_the_book_stays(self):
        book = Book()
        book.tell(trial())
        book_text(book)
        book.take_back()
        self.assertRaises(Nothing, book.take_back)

    def test_amounts_with_more_than_nine_figures(self):
        book = Book()
        great = line(mixed("clay 999999999, flint 1"), mixed("ash 999999998, clay 1"), 3)[1]
        book.tell(trial(mix=great))
        text = book_text(book)
        self.assertTrue([word for word in re.findall("[0-9]+", text) if len(word) > 9])
        self.assertEqual(text, "north 1 10 " + mix_text(great) + " hot top glossy 50")
        with self.assertRaises(NoText) as caught:
            read_book(text)
        self.assertEqual(caught.exception.line, 1)


class BookReadTest(Refusals):
    def test_an_empty_text_and_empty_lines(self):
        for text in ("", "\n", "\n\n\n"):
            book = read_book(text)
            self.assertIs(type(book), Book)
            self.assertEqual(book, Book())
            self.assertRaises(Nothing, book.take_back)

    def test_lines_in_any_order(self):
        rows = ["bag clay 9", "bag flint 3", ROW, with_word(1, "2")]
        expected = Book()
        expected.join([trial(), trial(number=2)])
        expected.new_bag("clay", 9)
        expected.new_bag("flint", 3)
        for order in permutations(rows):
            self.assertEqual(read_book("\n".join(order)), expected)
            self.assertEqual(read_book("\n\n" + "\n\n".join(order) + "\n"), expected)

    def test_written_and_read_back(self):
        chance = random.Random(24)
        for _ in range(40):
            book = Book()
            for _ in range(chance.randint(0, 12)):
                mix = Mix(tuple((stuff, chance.randint(1, 99999)) for stuff in chance.sample(STUFFS, 3)))
                book.join([trial(house=chance.choice(("a", "bag", "trial")), number=chance.randint(1, 10 ** 6), mix=mix,
                                 day=chance.randint(0, 10 ** 6), measure=chance.randint(0, 1000))])
            for _ in range(chance.randint(0, 5)):
                book.new_bag(chance.choice(STUFFS), chance.randint(0, 10 ** 6))
            text = book_text(book)
            told = read_book(text)
            self.assertEqual(told, book)
            self.assertEqual(book_text(told), text)
            rows = text.split("\n")
            chance.shuffle(rows)
            self.assertEqual(read_book("\n".join(rows)), book)

    def test_a_great_book(self):
        book = Book()
        for at in range(300):
            book.tell(trial(number=at + 1, mix=Mix(tuple((stuff, at + 1 + 7 * k) for k, stuff in enumerate(STUFFS[:60])))))
        self.assertEqual(read_book(book_text(book)), book)

    def test_by_its_deeds_line_by_line(self):
        book = read_book(f"bag clay 9\n\n{ROW}\n{ROW}\nbag clay 8\n")
        self.assertEqual((len(book), book.bags()), (1, (("clay", 8), ("clay", 9))))
        book.take_back()
        self.assertEqual((len(book), book.bags()), (1, (("clay", 9),)))
        book.take_back()
        self.assertEqual((len(book), book.bags()), (1, (("clay", 9),)))
        book.take_back()
        self.assertEqual((len(book), book.bags()), (0, (("clay", 9),)))
        book.take_back()
        self.assertEqual(book, Book())
        self.assertRaises(Nothing, book.take_back)

    def test_a_house_called_bag(self):
        book = read_book(with_word(0, "bag") + "\nbag bag 5")
        self.assertEqual((book.trials(), book.bags()), ([trial(house="bag")], (("bag", 5),)))

    def test_days_of_bags_at_their_bounds_and_one_beyond(self):
        self.assertEqual(read_book("bag a 0\nbag abcdefgh 1000000").bags(), (("a", 0), ("abcdefgh", 10 ** 6)))
        for day in ("-1", "1000001", "999999999"):
            self.assert_no_text(read_book, f"bag clay {day}", 1)

    def test_wrong_bags(self):
        # A line end within a word makes two lines of it, the first of which is as wrong.
        for word in WRONG_NUMBERS:
            if word != "1\n":
                self.assert_no_text(read_book, f"bag clay {word}", 1)
        for word in WRONG_NAMES:
            self.assert_no_text(read_book, f"bag {word} 5", 1)
        for row in ("bag", "bag clay", "bag clay 5 6", "bag  5", " bag clay 5", "bag clay 5 ", "bag  clay 5", "Bag clay 5",
                    "bags clay 5", "trial clay 5", "clay 5", "bag 5 clay", "bag\tclay\t5", "bag clay 5\r"):
            self.assert_no_text(read_book, row, 1)

    def test_wrong_trials(self):
        for at in NUMBERS:
            for word in WRONG_NUMBERS:
                if word != "1\n":
                    self.assert_no_text(read_book, "\n" + with_word(at, word), 2)
        for row in (" " + ROW, ROW + " ", ROW.replace(" hot", "  hot"), "trial " + ROW, with_word(3, "clay"),
                    with_word(7, "1001"), with_word(0, "North"), ROW + "\r", ROW[:-3], " ", "  "):
            self.assert_no_text(read_book, "\n" + row, 2)

    def test_the_number_of_the_line(self):
        rows = ["bag clay 9", "", ROW, "", "bag flint 3", with_word(1, "2"), ""]
        for at in range(len(rows) + 1):
            for wrong in ("bag", " ", "bag clay 09", ROW + " "):
                self.assert_no_text(read_book, "\n".join(rows[:at] + [wrong] + rows[at:]), at + 1)

    def test_of_two_wrong_lines_the_first_is_told(self):
        self.assert_no_text(read_book, f"{ROW}\nwrong\n\nwrong", 2)
        self.assert_no_text(read_book, f"bag Clay 5\n{ROW} 1", 1)

    def test_bags_told_twice(self):
        self.assertRaises(Twice, read_book, "bag clay 5\nbag clay 5")
        self.assertRaises(Twice, read_book, f"bag clay 5\n\nbag flint 5\n{ROW}\nbag clay 5")

    def test_trials_that_clash(self):
        with self.assertRaises(Clash) as caught:
            read_book("\n".join([with_word(0, "south"), ROW, with_word(7, "51"), with_word(0, "a")]))
        self.assertEqual((caught.exception.house, caught.exception.number), ("north", 1))

    def test_the_first_that_the_book_refuses_goes_first(self):
        clash, twice = f"{ROW}\n{with_word(7, '51')}", "bag clay 5\nbag clay 5"
        self.assertRaises(Clash, read_book, f"{clash}\n{twice}")
        self.assertRaises(Twice, read_book, f"{twice}\n{clash}")
        # The clash told is that of the first line that the book refuses, not the least one.
        rows = [with_word(0, "b"), with_word(0, "a"), with_word(7, "1", with_word(0, "b")),
                with_word(7, "1", with_word(0, "a"))]
        with self.assertRaises(Clash) as caught:
            read_book("\n".join(rows))
        self.assertEqual((caught.exception.house, caught.exception.number), ("b", 1))

    def test_a_wrong_line_behind_a_clash_or_a_bag_told_twice(self):
        self.assert_no_text(read_book, f"{ROW}\n{with_word(7, '51')}\nwrong", 3)
        self.assert_no_text(read_book, "bag clay 5\nbag clay 5\n\nwrong", 4)

    def test_anything(self):
        for thing in THINGS:
            if thing == "":
                self.assertEqual(read_book(thing), Book())
            else:
                self.assert_no_text(read_book, thing, 1 if type(thing) is str else None)
        for thing in ([ROW], (ROW,), [""], (), Book()):
            self.assert_no_text(read_book, thing)

    def test_other_line_ends(self):
        for end in ("\r\n", "\r", "\x0b", "\x0c", "\x1c", "\u2028", "\x85"):
            self.assert_no_text(read_book, f"{ROW}{end}{with_word(1, '2')}", 1)

    def test_the_family(self):
        with self.assertRaises(ToldError) as caught:
            read_book("wrong")
        self.assertIs(type(caught.exception), NoText)
        self.assertIsInstance(caught.exception, GlazeError)
        self.assertNotIsInstance(caught.exception, AskedError)


class InterfaceTest(unittest.TestCase):
    def test_names_of_arguments(self):
        for name, arguments in (("mix_text", "(mix)"), ("trial_text", "(trial)"), ("book_text", "(book)"),
                                ("read_mix", "(text)"), ("read_trial", "(text)"), ("read_book", "(text)")):
            self.assertEqual(str(inspect.signature(getattr(texts, name))), arguments)

    def test_by_name(self):
        self.assertEqual(mix_text(mix=read_mix(text="clay:2")), "clay:1")
        self.assertEqual(trial_text(trial=read_trial(text=ROW)), ROW)
        self.assertEqual(book_text(book=read_book(text=ROW)), ROW)
