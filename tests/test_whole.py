"""What the document promises over the whole program: kinds, copies, and that what was told may be handed in again."""

import ast
import unittest
from math import gcd
from pathlib import Path

from glazetold.blends import blend, line, place_in, place_on, triangle
from glazetold.books import Book, joined
from glazetold.desk import Desk
from glazetold.doings import did, lies, ranked
from glazetold.errors import GlazeError
from glazetold.labels import can_be, labelled
from glazetold.mixes import Mix
from glazetold.texts import book_text, mix_text, read_book, read_mix, read_trial, trial_text
from glazetold.trees import least_tree, settles
from glazetold.trials import Trial, bag_of, pairs, parts, unlike
from tests.made import BEYOND, FIELDS, mixed, trial

PACKAGE = Path(__file__).resolve().parent.parent / "glazetold"

CLAY, FLINT, ASH = mixed("clay 1"), mixed("flint 1"), mixed("ash 1")
BOTH = mixed("clay 3, flint 1")
BAGS = (("clay", 12), ("flint", 30))
DOUBTS = (("matt", "matt"), ("matt", "glossy"), ("glossy", "matt"), ("matt", "matt"))
TILE = (10, "hot", "top", "glossy", 50)
ROW = "north 1 10 clay:3+flint:1 hot top glossy 50"


class Many:
    """A list, or a tuple, of any length, all of one kind."""

    def __init__(self, outer, kind):
        self.outer = outer
        self.kind = kind


NUMBER, TEXT, TRUTH = int, str, bool
FRACTION = "fraction"
THING = "mix fire place bag"
PAIR = (NUMBER, NUMBER)


def some_trials():
    return [
        trial(number=1), trial(number=2, fire="cold", measure=60), trial(number=3, place="floor", measure=40),
        trial(number=4, mix=CLAY, measure=70), trial(number=5, day=20), trial(number=6, fire="cold", measure=30),
    ]


def ring_trials():
    told = []
    for worse, better, fire in (("back", "door", "a"), ("door", "floor", "b"), ("floor", "back", "c")):
        told.append(trial(number=len(told) + 1, fire=fire, place=worse, measure=5))
        told.append(trial(number=len(told) + 1, fire=fire, place=better, measure=6))
    return told


def some_book():
    book = Book()
    book.join(some_trials())
    book.new_bag("clay", 12)
    return book


def plain(thing):
    """All that is seen of a thing, as a value that nothing else changes."""
    if isinstance(thing, Mix):
        return ("mix", thing.least())
    if isinstance(thing, Trial):
        return ("trial", *[plain(getattr(thing, field)) for field in FIELDS])
    if isinstance(thing, Book):
        return ("book", plain(thing.trials()), thing.bags())
    if isinstance(thing, (list, tuple)):
        return (type(thing).__name__, *[plain(one) for one in thing])
    return (type(thing).__name__, thing)


def lists_in(thing):
    """All lists within a thing that is told."""
    if isinstance(thing, (list, tuple)):
        below = [one for part in thing for one in lists_in(part)]
        return below + [thing] if isinstance(thing, list) else below
    return []


# Each: a name, the kind of what is told, and how it is asked of things made anew.
ASKED = (
    ("Mix.shares", Many(tuple, (TEXT, FRACTION)), lambda: (BOTH.shares, ())),
    ("Mix.share", FRACTION, lambda: (BOTH.share, ("clay",))),
    ("Mix.share of another", FRACTION, lambda: (BOTH.share, ("ash",))),
    ("Mix.weighed", Many(tuple, (TEXT, FRACTION)), lambda: (BOTH.weighed, (10,))),
    ("Mix.least", Many(tuple, (TEXT, NUMBER)), lambda: (mixed("clay 6, flint 2").least, ())),
    ("Mix.__len__", NUMBER, lambda: (BOTH.__len__, ())),
    ("Mix.__str__", TEXT, lambda: (BOTH.__str__, ())),
    ("Mix.__eq__", TRUTH, lambda: (BOTH.__eq__, (CLAY,))),
    ("blend", Mix, lambda: (blend, ([CLAY, FLINT], [3, 1]))),
    ("line", Many(list, Mix), lambda: (line, (CLAY, FLINT, 4))),
    ("triangle", Many(list, ((NUMBER, NUMBER, NUMBER), Mix)), lambda: (triangle, (CLAY, FLINT, ASH, 2))),
    ("place_on", FRACTION, lambda: (place_on, (CLAY, FLINT, BOTH))),
    ("place_on at an end", FRACTION, lambda: (place_on, (CLAY, FLINT, CLAY))),
    ("place_on of another", None, lambda: (place_on, (CLAY, FLINT, ASH))),
    ("place_in", (FRACTION,) * 3, lambda: (place_in, (CLAY, FLINT, ASH, BOTH))),
    ("place_in of another", None, lambda: (place_in, (CLAY, FLINT, ASH, mixed("zinc 1")))),
    ("Trial.__eq__", TRUTH, lambda: (trial().__eq__, (trial(),))),
    ("bag_of", NUMBER, lambda: (bag_of, (BAGS, "clay", 20))),
    ("parts", Many(list, (NUMBER, Many(list, NUMBER))), lambda: (parts, (some_trials(), BAGS, "clay"))),
    ("unlike", Many(list, THING), lambda: (unlike, (BAGS, trial(), trial(day=20, fire="cold")))),
    ("pairs", Many(list, (NUMBER, NUMBER, THING)), lambda: (pairs, (some_trials(), BAGS))),
    ("did, sure", ("sure", "more", Many(list, PAIR)),
     lambda: (did, (some_trials(), ("place", "floor", "top"), BAGS))),
    ("did, open", ("open", PAIR, PAIR), lambda: (did, (some_trials(), ("fire", "hot", "cold"), BAGS))),
    ("did, none", ("none",), lambda: (did, (some_trials(), ("fire", "hot", "warm"), BAGS))),
    ("ranked, order", ("order", Many(list, TEXT)), lambda: (ranked, (some_trials(), BAGS))),
    ("ranked, ring", ("ring", Many(list, TEXT)), lambda: (ranked, (ring_trials(), BAGS))),
    ("lies", Many(list, (FRACTION, FRACTION)), lambda: (lies, (some_trials(), CLAY, FLINT, "hot", "top", 60))),
    ("least_tree", (NUMBER, tuple), lambda: (least_tree, (DOUBTS,))),
    ("settles", TRUTH, lambda: (settles, (DOUBTS, least_tree(DOUBTS)[1]))),
    ("can_be", Many(list, NUMBER), lambda: (can_be, (some_trials(), BAGS, TILE, [CLAY, BOTH, ASH]))),
    ("labelled, can", ("can", Many(list, Many(list, NUMBER))), lambda: (labelled, ([[1, 2], [1, 2], [2, 3]],))),
    ("labelled, few", ("few", Many(list, NUMBER)), lambda: (labelled, ([[1], [1]],))),
    ("joined", Many(list, Trial), lambda: (joined, ([some_trials(), [], some_trials()],))),
    ("Book.trials", Many(list, Trial), lambda: (some_book().trials, ())),
    ("Book.bags", Many(tuple, (TEXT, NUMBER)), lambda: (some_book().bags, ())),
    ("Book.pairs", Many(list, (NUMBER, NUMBER, THING)), lambda: (some_book().pairs, ())),
    ("Book.did", ("sure", "more", Many(list, PAIR)), lambda: (some_book().did, (("place", "floor", "top"),))),
    ("Book.ranked", ("order", Many(list, TEXT)), lambda: (some_book().ranked, ())),
    ("Book.__len__", NUMBER, lambda: (some_book().__len__, ())),
    ("Book.__str__", TEXT, lambda: (some_book().__str__, ())),
    ("Book.__eq__", TRUTH, lambda: (some_book().__eq__, (some_book(),))),
    ("mix_text", TEXT, lambda: (mix_text, (BOTH,))),
    ("trial_text", TEXT, lambda: (trial_text, (trial(),))),
    ("book_text", TEXT, lambda: (book_text, (some_book(),))),
    ("read_mix", Mix, lambda: (read_mix, ("clay:6+flint:2",))),
    ("read_trial", Trial, lambda: (read_trial, (ROW,))),
    ("read_book", Book, lambda: (read_book, ("bag clay 5\n" + ROW,))),
    ("Desk.say, pairs", TEXT, lambda: (Desk().say, ("pairs",))),
    ("Desk.say, blend", TEXT, lambda: (Desk().say, ("blend clay:1 3 flint:1 1",))),
)

# Deeds change a book, so asked again they are not answered the same.
DEEDS = (
    ("Book.tell", TRUTH, lambda: (Book().tell, (trial(),))),
    ("Book.tell of a known one", TRUTH, lambda: (some_book().tell, (trial(),))),
    ("Book.join", NUMBER, lambda: (Book().join, (some_trials(),))),
    ("Book.new_bag", None, lambda: (Book().new_bag, ("clay", 5))),
    ("Book.take_back", None, lambda: (some_book().take_back, ())),
    ("Desk.say, trial", TEXT, lambda: (Desk().say, ("trial " + ROW,))),
    ("Desk.say, bag", TEXT, lambda: (Desk().say, ("bag clay 5",))),
)


class WholeTest(unittest.TestCase):
    def assert_kind(self, thing, kind, name):
        if kind is None:
            self.assertIsNone(thing, name)
        elif isinstance(kind, type):
            self.assertIs(type(thing), kind, name)
        elif isinstance(kind, Many):
            self.assertIs(type(thing), kind.outer, name)
            self.assertGreater(len(thing), 0, name)
            for one in thing:
                self.assert_kind(one, kind.kind, name)
        elif isinstance(kind, tuple):
            self.assertEqual((type(thing), len(thing)), (tuple, len(kind)), name)
            for one, own in zip(thing, kind):
                self.assert_kind(one, own, name)
        elif kind == FRACTION:
            self.assert_kind(thing, PAIR, name)
            self.assertGreaterEqual(thing[1], 1, name)
            self.assertEqual(gcd(*thing), 1, name)
        elif kind == THING:
            self.assertIs(type(thing), str, name)
            self.assertIn(thing.split(" ")[0], THING.split(" "), name)
        else:
            self.assertEqual((type(thing), thing), (str, kind), name)

    def test_kinds(self):
        for name, kind, asked in ASKED + DEEDS:
            function, handed = asked()
            self.assert_kind(function(*handed), kind, name)

    def test_each_function_and_method_is_asked(self):
        names = {name.split(",")[0].split(" ")[0] for name, kind, asked in ASKED + DEEDS}
        for needed in ("blend line triangle place_on place_in bag_of parts unlike pairs did ranked lies least_tree settles "
                       "can_be labelled joined mix_text trial_text book_text read_mix read_trial read_book Mix.shares "
                       "Mix.share Mix.weighed Mix.least Mix.__eq__ Mix.__len__ Mix.__str__ Trial.__eq__ Book.tell Book.join "
                       "Book.new_bag Book.take_back Book.trials Book.bags Book.pairs Book.did Book.ranked Book.__len__ "
                       "Book.__eq__ Book.__str__ Desk.say").split(" "):
            self.assertIn(needed, names)

    def test_the_same_asked_again(self):
        for name, kind, asked in ASKED:
            function, handed = asked()
            told = plain(function(*handed))
            self.assertEqual(plain(function(*handed)), told, name)
            function, handed = asked()
            self.assertEqual(plain(function(*handed)), told, name)

    def test_nothing_that_is_handed_in_is_changed(self):
        for name, kind, asked in ASKED + DEEDS:
            function, handed = asked()
            before = plain(handed)
            function(*handed)
            self.assertEqual(plain(handed), before, name)

    def test_every_list_that_is_told_is_a_new_one(self):
        for name, kind, asked in ASKED:
            function, handed = asked()
            once, again = function(*handed), function(*handed)
            own = [id(one) for one in lists_in(once)]
            self.assertEqual(len(own), len(set(own)), name)
            others = [id(one) for one in lists_in(again) + lists_in(handed)]
            self.assertEqual(set(own) & set(others), set(), name)

    def test_what_is_done_to_a_told_list_changes_nothing(self):
        for name, kind, asked in ASKED:
            function, handed = asked()
            before = plain(handed)
            once = function(*handed)
            told = plain(once)
            for one in lists_in(once):
                one.clear()
            self.assertEqual(plain(handed), before, name)
            self.assertEqual(plain(function(*handed)), told, name)

    def test_what_is_done_to_what_was_handed_in_changes_nothing_told(self):
        for name, kind, asked in ASKED:
            function, handed = asked()
            once = function(*handed)
            told = plain(once)
            for one in lists_in(handed):
                for inner in one:
                    if isinstance(inner, Trial):
                        inner.measure = 999
                one.clear()
            self.assertEqual(plain(once), told, name)

    def test_the_fields_of_a_trial(self):
        made = trial()
        for field in FIELDS:
            kind = Mix if field == "mix" else int if field in ("number", "day", "measure") else str
            self.assertIs(type(getattr(made, field)), kind, field)

    def test_what_was_told_may_be_handed_in_again_whatever_its_figures(self):
        great = blend([CLAY, BOTH], [BEYOND, BEYOND + 1])
        again = Mix(great.least())
        self.assertEqual(again, great)
        self.assertEqual(place_on(CLAY, BOTH, again), (BEYOND + 1, 2 * BEYOND + 1))
        self.assertEqual(blend([great, again], [BEYOND, 1]), great)
        self.assertEqual(place_in(CLAY, FLINT, ASH, great)[2], (0, 1))
        book = Book()
        book.join([trial(number=1, mix=great), trial(number=2, mix=CLAY, measure=60)])
        told = book.did(("mix", book.trials()[0].mix, CLAY))
        self.assertEqual(told, ("sure", "more", [(0, 1)]))
        self.assertEqual(joined([book.trials(), book.trials()]), book.trials())
        self.assertEqual(can_be(book.trials(), book.bags(), TILE, [again, CLAY]), [0])
        self.assertEqual(lies(book.trials(), CLAY, BOTH, "hot", "top", 60)[0], ((0, 1), (0, 1)))
        self.assertIn(mix_text(great), book_text(book))

    def test_what_a_book_tells_is_handed_in_again(self):
        book = some_book()
        other = Book()
        other.join(book.trials())
        for stuff, day in book.bags():
            other.new_bag(stuff, day)
        self.assertEqual(other, book)
        self.assertEqual(pairs(book.trials(), book.bags()), book.pairs())
        self.assertEqual(read_book(book_text(book)), book)

    def test_all_refusals_are_own_ones(self):
        for ask in (lambda: Mix(()), lambda: blend([], []), lambda: did([], ()), lambda: Book().take_back(),
                    lambda: Book().new_bag(None, None), lambda: read_mix(None), lambda: Desk().say(None),
                    lambda: trial(house=None), lambda: place_in(CLAY, CLAY, CLAY, CLAY),
                    lambda: joined([[trial(), trial(measure=1)]])):
            self.assertRaises(GlazeError, ask)

    def test_methods_stand_in_their_own_classes(self):
        needed = {"Mix": "shares share weighed least __eq__ __len__ __str__", "Trial": "__eq__", "Desk": "say",
                  "Book": "tell join new_bag take_back trials bags pairs did ranked __len__ __eq__ __str__"}
        found = {node.name: {own.name for own in node.body if isinstance(own, ast.FunctionDef)}
                 for path in PACKAGE.glob("*.py") for node in ast.parse(path.read_text()).body
                 if isinstance(node, ast.ClassDef)}
        for name, methods in needed.items():
            self.assertEqual(sorted(set(methods.split(" ")) - found[name]), [])
