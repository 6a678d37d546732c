"""A desk, which has a book, is told rows, and answers each with a text."""

from glazetold.blends import blend
from glazetold.books import Book
from glazetold.errors import NoRow
from glazetold.texts import is_number, mix_text, read_mix, read_trial
from glazetold.trials import parts


def number_in_row(word):
    """The number that a word of a row tells."""
    if not is_number(word):
        raise NoRow("a word of this row is no number")
    return int(word)


def told_or_none(words):
    """The words with blanks between, or none."""
    return " ".join(words) if words else "none"


def say_trial(book, words):
    """The answer to a trial that is told."""
    return "new" if book.tell(read_trial(" ".join(words[1:]))) else "known"


def say_bag(book, words):
    """The answer to a bag that is told."""
    book.new_bag(words[1], number_in_row(words[2]))
    return "ok"


def say_back(book, words):
    """The answer where the last deed is taken back."""
    book.take_back()
    return "ok"


def pair_text(one, other, thing):
    """Two trials and the one thing in which they are unlike, as a word."""
    # A thing such as "bag clay" has a blank, and blanks part the words of an answer.
    word = thing.replace(" ", "-")
    return f"{one}:{other}:{word}"


def say_pairs(book, words):
    """The pairs of trials that are unlike in just one thing."""
    return told_or_none([pair_text(one, other, thing) for one, other, thing in book.pairs()])


def change_of(words):
    """The change of which a row asks."""
    thing, one, other = words
    if thing == "mix":
        return (thing, read_mix(one), read_mix(other))
    if thing != "fire" and thing != "place":
        raise NoRow("of this thing no change is told")
    return (thing, one, other)


def say_did(book, words):
    """What a change did."""
    told = book.did(change_of(words[1:]))
    if told[0] == "none":
        return "none"
    if told[0] == "sure":
        return f"sure {told[1]}"
    return " ".join(["open"] + [f"{one}:{other}" for one, other in told[1:]])


def say_ranked(book, words):
    """How the places are ranked."""
    word, places = book.ranked()
    return " ".join([word] + places)


def part_text(bag, numbers):
    """A bag and the numbers of its trials, as a word."""
    told = ",".join([str(number) for number in numbers])
    return f"{bag}:{told}"


def say_parts(book, words):
    """Which trials have a stuff from which bag."""
    found = parts(book.trials(), book.bags(), words[1])
    return told_or_none([part_text(bag, numbers) for bag, numbers in found])


def say_blend(book, words):
    """The blend of two mixes by two weights."""
    # A word that is no number is refused ahead of one that is no mix, wherever it stands.
    weights = [number_in_row(words[2]), number_in_row(words[4])]
    return mix_text(blend([read_mix(words[1]), read_mix(words[3])], weights))


def say_book(book, words):
    """The book as a text."""
    return str(book)


# By the first word of a row, and how many words it has.
ANSWERS = {
    ("trial", 9): say_trial,
    ("bag", 3): say_bag,
    ("back", 1): say_back,
    ("pairs", 1): say_pairs,
    ("did", 4): say_did,
    ("ranked", 1): say_ranked,
    ("parts", 2): say_parts,
    ("blend", 5): say_blend,
    ("book", 1): say_book,
}


class Desk:
    """A desk with a book of its own."""

    def __init__(self):
        self.book = Book()

    def say(self, row):
        """The answer to a row."""
        if not isinstance(row, str):
            raise NoRow("a row is a text")
        words = row.split(" ")
        key = (words[0], len(words))
        if key not in ANSWERS:
            raise NoRow("there is no such row")
        answer = ANSWERS[key]
        return answer(self.book, words)
