"""All refusals, in two families: of what was told, and of what was asked."""


class GlazeError(ValueError):
    """Any refusal."""


class ToldError(GlazeError):
    """A refusal of what was told."""


class AskedError(GlazeError):
    """A refusal of what was asked."""


class NoMix(ToldError):
    """Of this no mix is made; part is the place of the first wrong pair, or None."""

    def __init__(self, part):
        super().__init__(f"no mix: part {part}")
        self.part = part


class NoTrial(ToldError):
    """Of this no trial is made; word is the name of the first wrong part."""

    def __init__(self, word):
        super().__init__(f"no trial: {word}")
        self.word = word


class NoName(ToldError):
    """This is no name."""


class NoDay(ToldError):
    """This is no day."""


class Clash(ToldError):
    """Two unlike trials have this house and number."""

    def __init__(self, house, number):
        super().__init__(f"two unlike trials: {house} {number}")
        self.house = house
        self.number = number


class Twice(ToldError):
    """This bag was told before."""


class NoText(ToldError):
    """This text is not read; line is the number of the first wrong line, or None."""

    def __init__(self, line=None):
        super().__init__(f"no such text: line {line}")
        self.line = line


class NoRow(ToldError):
    """This is no row for a desk."""


class NoWeights(AskedError):
    """By these weights nothing is blended."""


class NoTriangle(AskedError):
    """These three mixes span no triangle."""


class NoChange(AskedError):
    """This is no change of a thing."""


class Nothing(AskedError):
    """There is nothing to take back."""
