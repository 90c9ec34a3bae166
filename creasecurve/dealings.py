"""Dealings: a column for each row of a table, each column once, and those of the greatest worth."""

from creasecurve.fractions import common_bottom, fraction, whole


def dealings_of(n):
    # Each goes on from those that are shorter, in their order, so that all stay sorted.
    made = [[]]
    for row in range(n):
        longer = []
        for start in made:
            longer.extend([start + [column] for column in range(n) if column not in start])
        made = longer
    return made


def whole_rows(table, factor):
    rows = []
    for row in table:
        rows.append([whole(number, factor) for number in row])
    return rows


def worth_of(rows, dealing):
    return sum([row[column] for row, column in zip(rows, dealing)])


def best(table):
    numbers = []
    for row in table:
        numbers.extend(row)
    factor = common_bottom(numbers)
    rows = whole_rows(table, factor)
    dealings = dealings_of(len(rows))
    worths = [worth_of(rows, dealing) for dealing in dealings]
    top = max(worths)
    return (fraction(top, factor), worths.count(top), dealings[worths.index(top)])
