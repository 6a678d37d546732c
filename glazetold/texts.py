"""Mixes, trials and books as texts, written and read."""

from glazetold.books import Book
from glazetold.errors import NoMix, NoText, NoTrial
from glazetold.fractions import figures
from glazetold.mixes import Mix, is_name
from glazetold.trials import Trial, is_day

FIGURES = "0123456789"
MOST_FIGURES = 9
TRIAL_WORDS = 8
BAG_WORDS = 3


def mix_text(mix):
    """A mix, written by its least amounts."""
    return "+".join([f"{stuff}:{figures(amount)}" for stuff, amount in mix.least()])


def trial_text(trial):
    """A trial, written by its eight words."""
    ahead = f"{trial.house} {trial.number} {trial.day} {mix_text(trial.mix)}"
    return f"{ahead} {trial.fire} {trial.place} {trial.look} {trial.measure}"


def book_text(book):
    """A book, written by lines: bags, then trials."""
    bag_lines = [f"bag {stuff} {day}" for stuff, day in book.bags()]
    return "\n".join(bag_lines + [trial_text(trial) for trial in book.trials()])


def is_number(word):
    """Whether a word is a number as it is read."""
    if not 1 <= len(word) <= MOST_FIGURES:
        return False
    # Other alphabets have figures of their own, which Python would read as well.
    if not all([sign in FIGURES for sign in word]):
        return False
    return word == "0" or word[0] != "0"


def read_number(word):
    """The number that a word tells."""
    if not is_number(word):
        raise NoText()
    return int(word)


def check_text(thing):
    """Refuses what is no text."""
    if not isinstance(thing, str):
        raise NoText()


def read_pair(word):
    """The pair of a stuff and its amount, the stuff as yet unchecked."""
    stuff, mark, amount = word.partition(":")
    return (stuff, read_number(amount))


def read_mix(text):
    """The mix that a text tells."""
    check_text(text)
    told = tuple([read_pair(word) for word in text.split("+")])
    try:
        return Mix(told)
    except NoMix:
        raise NoText() from None


def read_trial(text):
    """The trial that a text tells."""
    check_text(text)
    words = text.split(" ")
    if len(words) != TRIAL_WORDS:
        raise NoText()
    house, number, day, mix, fire, place, look, measure = words
    try:
        return Trial(
            house, read_number(number), read_number(day), read_mix(mix), fire, place, look, read_number(measure)
        )
    except NoTrial:
        raise NoText() from None


def read_bag(words):
    """The pair (stuff, day) that the words of a line tell."""
    mark, stuff, word = words
    day = read_number(word)
    if mark != "bag" or not is_name(stuff) or not is_day(day):
        raise NoText()
    return (stuff, day)


def read_line(row):
    """The trial, or the pair of a bag, that a line tells."""
    words = row.split(" ")
    # A house may be called bag, so a line is known by how many words it has.
    if len(words) == BAG_WORDS:
        return read_bag(words)
    return read_trial(row)


def read_lines(text):
    """All that the lines of a text tell; NoText tells the first line that is none."""
    told = []
    for at, row in enumerate(text.split("\n"), start=1):
        if row != "":
            try:
                told.append(read_line(row))
            except NoText:
                raise NoText(at) from None
    return told


def read_book(text):
    """The book that a text tells by its lines."""
    check_text(text)
    book = Book()
    for deed in read_lines(text):
        if isinstance(deed, Trial):
            book.tell(deed)
        else:
            stuff, day = deed
            book.new_bag(stuff, day)
    return book
