import itertools
import unittest
from fractions import Fraction

import samples
from creasecurve.dealings import best
from samples import real, told


def table_of(rows):
    return [[told(number) for number in row] for row in rows]


def expected_best(table):
    worths = {dealing: sum((real(row[k]) for row, k in zip(table, dealing)), Fraction(0))
              for dealing in itertools.permutations(range(len(table)))}
    top = max(worths.values())
    alike = sorted(list(dealing) for dealing, worth in worths.items() if worth == top)
    return told(top), len(alike), alike[0]


def sample_tables():
    tables = []
    for seed in range(90):
        row = samples.chances(seed)
        n = seed % 7
        if seed % 3 == 0:
            numbers = [Fraction(next(row) % 3) for k in range(n * n)]
        elif seed % 3 == 1:
            numbers = [Fraction(next(row) % 41 - 20, 1 + next(row) % 6) for k in range(n * n)]
        else:
            numbers = [Fraction(samples.long_number(row), samples.long_number(row)) - 1 for k in range(n * n)]
        tables.append(table_of([numbers[k * n:k * n + n] for k in range(n)]))
    return tables


class Best(unittest.TestCase):
    def test_without_rows(self):
        self.assertEqual(best([]), ((0, 1), 1, []))

    def test_one_row(self):
        self.assertEqual(best(table_of([["-7/3"]])), ((-7, 3), 1, [0]))
        self.assertEqual(best(table_of([[0]])), ((0, 1), 1, [0]))

    def test_two_rows(self):
        self.assertEqual(best(table_of([[1, 5], [2, "1/2"]])), ((7, 1), 1, [1, 0]))
        self.assertEqual(best(table_of([[1, 0], [0, "1/2"]])), ((3, 2), 1, [0, 1]))

    def test_rows_and_columns_are_not_taken_for_one_another(self):
        table = table_of([[0, 9, 0], [0, 0, 9], [9, 0, 0]])
        self.assertEqual(best(table), ((27, 1), 1, [1, 2, 0]))

    def test_each_column_once(self):
        self.assertEqual(best(table_of([[9, 8], [9, 0]])), ((17, 1), 1, [1, 0]))

    def test_more_than_one_is_best(self):
        self.assertEqual(best(table_of([[1, 1], [1, 1]])), ((2, 1), 2, [0, 1]))
        self.assertEqual(best(table_of([["1/2"] * 6] * 6)), ((3, 1), 720, [0, 1, 2, 3, 4, 5]))
        self.assertEqual(best(table_of([[0, 1, 1], [0, 1, 1], [0, 0, 0]])), ((2, 1), 2, [1, 2, 0]))
        self.assertEqual(best(table_of([[0, 0, 3], [0, 0, 0], [0, 0, 0]])), ((3, 1), 2, [2, 0, 1]))

    def test_all_below_nought(self):
        self.assertEqual(best(table_of([[-1, -2], [-3, -5]])), ((-5, 1), 1, [1, 0]))

    def test_a_hair_apart(self):
        hair = Fraction(1, 10 ** 30 - 1)
        self.assertEqual(best(table_of([[0, 0], [0, hair]])), (told(hair), 1, [0, 1]))
        self.assertEqual(best(table_of([[0, hair], [0, 0]])), (told(hair), 1, [1, 0]))
        self.assertEqual(best(table_of([[0, hair], [-hair, 0]])), ((0, 1), 2, [0, 1]))

    def test_six_rows(self):
        table = table_of([[Fraction((i + 1) * (j + 1), 7) for j in range(6)] for i in range(6)])
        self.assertEqual(best(table), ((13, 1), 1, [0, 1, 2, 3, 4, 5]))
        self.assertEqual(best(table[::-1]), ((13, 1), 1, [5, 4, 3, 2, 1, 0]))

    def test_by_another_way(self):
        for table in sample_tables():
            self.assertEqual(best(table), expected_best(table))

    def test_many_figures(self):
        whole = 10 ** 60
        table = table_of([[Fraction(whole - 5 * i * j - 1, whole - 7 * i - j - 1) for j in range(6)] for i in range(6)])
        self.assertEqual(best(table), expected_best(table))

    def test_somewhat_beyond_the_bounds(self):
        table = table_of([[1 if (i + 1) % 7 == j else 0 for j in range(7)] for i in range(7)])
        self.assertEqual(best(table), ((7, 1), 1, [1, 2, 3, 4, 5, 6, 0]))

    def test_kinds(self):
        for table in sample_tables()[:20]:
            told_best = best(table)
            self.assertIs(type(told_best), tuple)
            self.assertEqual([type(part) for part in told_best], [tuple, int, list])
            self.assertEqual([type(column) for column in told_best[2]], [int] * len(table))

    def test_own_lists(self):
        samples.check_own(self, best, table_of([[1, 5], [2, "1/2"]]))
        samples.check_own(self, best, [])


if __name__ == "__main__":
    unittest.main()
