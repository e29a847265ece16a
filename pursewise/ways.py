"""What is told of two rows: their gap, their dues and a way from the one to the other."""

from pursewise.errors import Gap, Unlike
from pursewise.rows import tops


def refuse_unlike(one, other):
    if len(one) != len(other):
        raise Unlike("the rows have not as many purses")
    if sum(one) != sum(other):
        raise Unlike("the rows do not hold the same together")


def gap(one, other):
    refuse_unlike(one, other)
    first = tops(one)
    second = tops(other)
    for count in range(len(first)):
        if second[count] > first[count]:
            return count
    return None


def held_more(one, other):
    fullest = sorted(one, reverse=True)
    wanted = sorted(other, reverse=True)
    return [held - asked for held, asked in zip(fullest, wanted)]


def dues(one, other):
    refuse_unlike(one, other)
    return sum([more for more in held_more(one, other) if more > 0])


def fullest_first(row):
    return sorted(range(len(row)), key=lambda place: row[place], reverse=True)


def handed_on(places, more):
    # Without a gap, what a place lacks is always still to spare at places ahead of it. A giver ahead holds at
    # least what it shall keep, which is no less than what the taker shall have, so each gift fits. Each gift
    # settles its giver or its taker and the last one both, so there are fewer gifts than purses.
    left = list(more)
    gifts = []
    giver = 0
    for taker in range(len(places)):
        while left[taker] < 0:
            if left[giver] <= 0:
                giver = giver + 1
            else:
                amount = min(left[giver], -left[taker])
                gifts.append((places[giver], places[taker], amount))
                left[giver] = left[giver] - amount
                left[taker] = left[taker] + amount
    return gifts


def way(one, other):
    at = gap(one, other)
    if at is not None:
        raise Gap(at)
    return handed_on(fullest_first(one), held_more(one, other))
