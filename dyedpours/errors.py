"""The errors: PourError, and directly below it all others."""


class PourError(ValueError):
    """What all errors of the package are; value is what it was raised with."""

    def __init__(self, value):
        self.value = value


class BadYard(PourError):
    """No text of a yard: 0 for no string, otherwise the number of the first wrong line."""


class BadSpot(PourError):
    """No spot of the yard."""


class NoVessel(PourError):
    """No name of a vessel of it."""


class BadMoment(PourError):
    """No moment of the yard."""


class BadStep(PourError):
    """No step that can stand behind all others."""


class Full(PourError):
    """No more than so many can stand there."""


class BadSample(PourError):
    """No sample of the yard."""


class Told(PourError):
    """The sample with this number is just this one."""


class NoSample(PourError):
    """No number of a sample."""


class NoStep(PourError):
    """No number of a step that is meant."""


class NoEnd(PourError):
    """No number of an end."""


class NoGlass(PourError):
    """The end with this number is no glass."""


class Fixed(PourError):
    """The step with this number may not be exchanged with the next one."""


class OtherVessels(PourError):
    """No yard with the same vessels."""


class Unlike(PourError):
    """What should be like one another is not."""


class BadAmount(PourError):
    """No amount that is meant."""


class NotParted(PourError):
    """The step with this number is a draw, which is not parted."""


class BadRow(PourError):
    """No row of the yard."""


class NotMixing(PourError):
    """No mixing that is meant."""


class TooMany(PourError):
    """There are more than so many."""


class BadCut(PourError):
    """No cut of the yard."""


class BadLot(PourError):
    """No lot that is meant."""


class NoMixing(PourError):
    """No mixing fits this yard."""


class BadDyes(PourError):
    """No dyes of the holders."""


class BadWeights(PourError):
    """No weights of the yard."""


class BadHeights(PourError):
    """No heights of the yard."""


class BadSpots(PourError):
    """No tuple of unlike spots, as many as are meant."""


class BadNumbers(PourError):
    """No ascending tuple of numbers of samples."""


class OtherSteps(PourError):
    """No yard with the same vessels and steps."""


class BadMarks(PourError):
    """No ascending tuple of numbers of sources."""


class NoSource(PourError):
    """No number of a source."""


class Great(PourError):
    """More than so much stands in a vessel."""


class BadMost(PourError):
    """No number of dye that may be."""


class BadPrices(PourError):
    """No prices of the ends."""


class BadQuestion(PourError):
    """No question of the yard."""


class BadAnswers(PourError):
    """No answers to questions of the yard."""


class BadQuestions(PourError):
    """No tuple of unlike questions of the yard."""


class BadBlock(PourError):
    """No block for the yard."""


class BadMany(PourError):
    """No number of rounds."""


class BadOffers(PourError):
    """No offers for the yard."""


class BadWishes(PourError):
    """No wishes for the yard."""


class BadChoice(PourError):
    """No choice of these offers."""


class BadVessels(PourError):
    """No vessels of a wharf."""


class Same(PourError):
    """A vessel would be poured into itself."""


class TooLittle(PourError):
    """No more than so much stands in the vessel."""


class Torn(PourError):
    """No mixing would fit."""


class NothingToUndo(PourError):
    """No deed stands that could be taken back."""


class NothingToRedo(PourError):
    """No deed was taken back that could be done again."""


class NoTrial(PourError):
    """There is no block of a trial."""


class BadJournal(PourError):
    """No journal: 0 for no string, otherwise the number of the first wrong line."""


class BadLine(PourError):
    """No line that a desk knows."""
