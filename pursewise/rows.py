"""What is told of one row of purses: its tops, its spread and its level row."""


def tops(row):
    sums = [0]
    for held in sorted(row, reverse=True):
        sums.append(sums[-1] + held)
    return sums


def spread(row):
    together = sum(row)
    squares = sum([held * held for held in row])
    return len(row) * squares - together * together


def level(row):
    purses = len(row)
    # Without purses there is nothing to divide by.
    if purses == 0:
        return []
    together = sum(row)
    least = together // purses
    fuller = together % purses
    return [least + 1] * fuller + [least] * (purses - fuller)
