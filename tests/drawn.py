"""What several test files share: rows and gifts that are drawn with a fixed seed, so that each run tries the same."""

import itertools
import random

FAR = 10 ** 60


def draws(seed):
    return random.Random(seed)


def small_rows(most_purses, least, most):
    for purses in range(most_purses + 1):
        for row in itertools.product(range(least, most + 1), repeat=purses):
            yield list(row)


def drawn_row(draw, purses, bound=FAR):
    return [draw.randint(-bound, bound) for _ in range(purses)]


def after(row, gift):
    """The row behind a gift that fits, reckoned without the program."""
    giver, taker, amount = gift
    return [held - amount * (place == giver) + amount * (place == taker) for place, held in enumerate(row)]


def drawn_gift(draw, row):
    """A gift that fits the row, or None where all hold alike."""
    if len(set(row)) < 2:
        return None
    while True:
        giver, taker = draw.sample(range(len(row)), 2)
        differ = row[giver] - row[taker]
        if differ > 0:
            # The edges come often: the least amount, the whole difference, and half of it.
            amount = draw.choice([1, differ, (differ + 1) // 2] + [draw.randint(1, differ) for _ in range(5)])
            return (giver, taker, amount)


def drawn_gifts(draw, row, count):
    """So many gifts that fit one by one (fewer where all hold alike), and the rows from the first to the last."""
    gifts, rows = [], [list(row)]
    while len(gifts) < count:
        gift = drawn_gift(draw, rows[-1])
        if gift is None:
            break
        gifts.append(gift)
        rows.append(after(rows[-1], gift))
    return gifts, rows
