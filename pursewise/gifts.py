"""Gifts upon a row: whether one fits, the row behind them, and the shares they leave."""

from pursewise.errors import NoGift


def has_place(row, place):
    return 0 <= place < len(row)


def difference(row, gift):
    return row[gift[0]] - row[gift[1]]


def fits(row, gift):
    # An amount below 1 would let a gift from a place to itself fit, or one that goes to a fuller purse.
    if gift[2] < 1:
        return False
    # Python would count a place below nought from the row's end.
    if not has_place(row, gift[0]) or not has_place(row, gift[1]):
        return False
    return difference(row, gift) >= gift[2]


def done(row, gift):
    if not fits(row, gift):
        raise NoGift("the gift does not fit the row")
    behind = list(row)
    behind[gift[0]] = row[gift[0]] - gift[2]
    behind[gift[1]] = row[gift[1]] + gift[2]
    return behind


def walked(row, gifts):
    # A copy, so that a list without gifts tells a new list too.
    behind = list(row)
    for gift in gifts:
        behind = done(behind, gift)
    return behind


def own_shares(purses):
    table = []
    for place in range(purses):
        table.append([1 if column == place else 0 for column in range(purses)])
    return table


def mixed(one, times_one, other, times_other):
    return [times_one * part + times_other * beside for part, beside in zip(one, other)]


def shared_on(table, gift, differed):
    giver = gift[0]
    taker = gift[1]
    amount = gift[2]
    kept = differed - amount
    behind = []
    for place, parts in enumerate(table):
        if place == giver:
            behind.append(mixed(parts, kept, table[taker], amount))
        elif place == taker:
            behind.append(mixed(table[giver], amount, parts, kept))
        else:
            behind.append([differed * part for part in parts])
    return behind


def shares(row, gifts):
    held = list(row)
    table = own_shares(len(row))
    scale = 1
    for gift in gifts:
        # Done first: it refuses a gift whose places may not lie in the row.
        behind = done(held, gift)
        differed = difference(held, gift)
        table = shared_on(table, gift, differed)
        scale = scale * differed
        held = behind
    return (table, scale)
