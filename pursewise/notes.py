"""Lists of gifts as texts: written, and read again."""

from pursewise.errors import NoText

FIGURES = "0123456789"
PLACE_FIGURES = 2
AMOUNT_FIGURES = 61


def shown(gifts):
    return " ".join([f"{giver}>{taker}:{amount}" for giver, taker, amount in gifts])


def read_number(written, most_figures):
    # The length is looked at first: Python's int refuses very long texts with an error of its own.
    if len(written) < 1 or len(written) > most_figures:
        raise NoText("a number has too few or too many figures")
    # Python's int would also take signs, blanks, _ and figures of other scripts.
    if any([sign not in FIGURES for sign in written]):
        raise NoText("a number is written by its figures alone")
    if len(written) > 1 and written[0] == "0":
        raise NoText("a number has a nought ahead")
    return int(written)


def read_gift(written):
    # Where > or : is missing, partition leaves a number without figures, which is refused as such.
    halves = written.partition(">")
    ends = halves[2].partition(":")
    giver = read_number(halves[0], PLACE_FIGURES)
    taker = read_number(ends[0], PLACE_FIGURES)
    amount = read_number(ends[2], AMOUNT_FIGURES)
    if amount == 0:
        raise NoText("an amount is 0")
    if giver == taker:
        raise NoText("giver and taker are alike")
    return (giver, taker, amount)


def read(text):
    # Split, the text without signs would be one gift without signs.
    if text == "":
        return []
    return [read_gift(written) for written in text.split(" ")]
