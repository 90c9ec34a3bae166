import copy
import itertools
import unittest
from fractions import Fraction

import samples
from creasecurve.corners import corners
from creasecurve.papers import Alone, Balance, Mixture, Paper, papers
from creasecurve.pieces import leaving
from creasecurve.sums import moved
from creasecurve.texts import read
from creasecurve.thinning import staying, struck, thinned
from samples import at, plane

HAIR = Fraction(1, 10 ** 30 - 1)
THIRD = (1, 3)
HALF = (1, 2)
# Three planes stay; (1, 1) lies below all three of them, (1, 2) and (2, 0) below two each.
ROOF = read("0 0 0; 0 3 0; 1 1 -1; 1 2 -5; 2 0 -2; 3 0 0")
LOW = plane(1, 1, -1)
THREE = [(THIRD, plane(0, 0, 0)), (THIRD, plane(0, 3, 0)), (THIRD, plane(3, 0, 0))]


def said(paper):
    return {name: copy.deepcopy(value) for name, value in vars(paper).items()}


class Classes(unittest.TestCase):
    def test_right_under_the_base(self):
        for kind in (Mixture, Alone, Balance):
            self.assertEqual(kind.__bases__, (Paper,))
        self.assertIsInstance(Paper(), Paper)

    def test_fields(self):
        mixture = Mixture(LOW, THREE)
        self.assertEqual((mixture.plane, mixture.parts), (LOW, THREE))
        alone = Alone(LOW, at(1, 2))
        self.assertEqual((alone.plane, alone.point), (LOW, at(1, 2)))
        balance = Balance(at(1, 2), [((5, 7), -3)])
        self.assertEqual((balance.point, balance.rows), (at(1, 2), [((5, 7), -3)]))

    def test_lists_are_copies(self):
        parts = list(THREE)
        mixture = Mixture(LOW, parts)
        parts.clear()
        self.assertEqual(mixture.parts, THREE)
        self.assertTrue(mixture.holds(ROOF))
        rows = leaving(ROOF, corners(ROOF)[0])
        kept = list(rows)
        balance = Balance(corners(ROOF)[0], rows)
        rows.append(((1, 1), 1))
        self.assertEqual(balance.rows, kept)
        self.assertTrue(balance.holds(ROOF))

    def test_the_list_of_a_paper_is_its_own(self):
        parts = list(THREE)
        mixture = Mixture(LOW, parts)
        mixture.parts.clear()
        self.assertEqual(parts, THREE)
        rows = [((1, 1), 1)]
        balance = Balance(at(0, 0), rows)
        balance.rows.clear()
        self.assertEqual(rows, [((1, 1), 1)])

    def test_looking_changes_nothing(self):
        for paper in papers(ROOF):
            roof = list(ROOF)
            before = said(paper)
            self.assertIs(paper.holds(roof), True)
            self.assertIs(paper.holds(roof), True)
            self.assertEqual(roof, ROOF)
            self.assertEqual(said(paper), before)


class Mixtures(unittest.TestCase):
    def check(self, expected, parts, one=LOW, roof=ROOF):
        self.assertIs(Mixture(one, parts).holds(roof), expected)

    def test_three_planes_in_whatever_order(self):
        for parts in itertools.permutations(THREE):
            self.check(True, list(parts))

    def test_two_planes(self):
        two = [((2, 3), plane(3, 0, 0)), (THIRD, plane(0, 0, 0))]
        self.check(True, two, plane(2, 0, -2))
        self.check(True, two[::-1], plane(2, 0, -2))
        self.check(False, [(HALF, plane(3, 0, 0)), (HALF, plane(0, 0, 0))], plane(2, 0, -2))
        self.check(True, [((2, 3), plane(0, 3, 0)), (THIRD, plane(3, 0, 0))], plane(1, 2, -5))

    def test_planes_that_are_struck_out_may_be_in_it(self):
        roof = read("0 0 0; 1 0 -3; 2 0 -2; 3 0 -1; 4 0 0")
        self.check(True, [(HALF, plane(0, 0, 0)), (HALF, plane(2, 0, -2))], plane(1, 0, -3), roof)

    def test_to_no_less_than_its_height(self):
        for height, expected in ((0, True), (-HAIR, True), (HAIR, False), (-99, True), (1, False)):
            one = plane(1, 1, height)
            roof = [plane(0, 0, 0), plane(0, 3, 0), one, plane(3, 0, 0)]
            self.check(expected, THREE, one, roof)

    def test_shares_put_otherwise(self):
        planes = [part for share, part in THREE]
        for shares in ([HALF, (1, 4), (1, 4)], [THIRD, THIRD, (1, 2)], [THIRD, THIRD, (1, 6)], [(1, 1), (0, 1), (0, 1)],
                       [THIRD, THIRD, (-1, 3)], [(1, 1), (1, 1), (1, 1)], [(-1, 3), (-1, 3), (-1, 3)]):
            self.check(False, list(zip(shares, planes)))

    def test_a_share_of_nought_or_below(self):
        one = plane(2, 0, -2)
        two = [(THIRD, plane(0, 0, 0)), ((2, 3), plane(3, 0, 0))]
        self.check(True, two, one)
        self.check(False, two + [((0, 1), plane(0, 3, 0))], one)
        roof = read("0 0 0; 1 0 0; 2 0 -9; 3 0 0")
        self.check(False, [((-1, 1), plane(0, 0, 0)), ((2, 1), plane(1, 0, 0))], plane(2, 0, -9), roof)

    def test_shares_that_do_not_sum_to_one(self):
        roof = read("0 0 0; 2 0 -9; 4 0 0")
        self.check(True, [(HALF, plane(0, 0, 0)), (HALF, plane(4, 0, 0))], plane(2, 0, -9), roof)
        self.check(False, [((1, 4), plane(0, 0, 0)), (HALF, plane(4, 0, 0))], plane(2, 0, -9), roof)
        self.check(False, [(HALF, plane(4, 0, 0))], plane(2, 0, -9), roof)

    def test_slopes_that_do_not_fit(self):
        self.check(False, [(THIRD, plane(0, 0, 0)), (THIRD, plane(0, 3, 0)), (THIRD, plane(2, 0, -2))],
                   plane(1, 1, -1))
        roof = read("0 0 0; 1 1 -9; 2 0 0; 2 2 0; 0 2 0; 4 2 0")
        self.check(True, [(HALF, plane(0, 0, 0)), (HALF, plane(2, 2, 0))], plane(1, 1, -9), roof)
        self.check(False, [(HALF, plane(0, 0, 0)), (HALF, plane(2, 0, 0))], plane(1, 1, -9), roof)
        self.check(False, [(HALF, plane(0, 0, 0)), (HALF, plane(0, 2, 0))], plane(1, 1, -9), roof)

    def test_the_plane_is_not_of_the_roof(self):
        self.check(False, THREE, plane(1, 1, -2))
        self.check(False, THREE, plane(1, 1, 0))
        self.check(False, THREE, LOW, [part for share, part in THREE])

    def test_a_part_is_not_of_the_roof(self):
        higher = [(THIRD, plane(0, 0, 1)), (THIRD, plane(0, 3, 0)), (THIRD, plane(3, 0, 0))]
        self.check(False, higher)
        self.check(False, [(HALF, plane(0, 2, 5)), (HALF, plane(2, 0, -2))])

    def test_the_plane_itself_is_a_part(self):
        self.check(False, [((1, 1), LOW)])
        self.check(False, [(HALF, LOW), ((1, 6), plane(0, 0, 0)), (THIRD, plane(0, 3, 0))])
        roof = read("0 0 0; 1 0 0; 2 0 0")
        self.check(False, [(HALF, plane(1, 0, 0)), ((1, 4), plane(0, 0, 0)), ((1, 4), plane(2, 0, 0))],
                   plane(1, 0, 0), roof)

    def test_alike_parts(self):
        roof = read("0 0 0; 1 0 -1; 2 0 0")
        self.check(True, [(HALF, plane(0, 0, 0)), (HALF, plane(2, 0, 0))], plane(1, 0, -1), roof)
        self.check(False, [((1, 4), plane(0, 0, 0)), ((1, 4), plane(0, 0, 0)), (HALF, plane(2, 0, 0))],
                   plane(1, 0, -1), roof)

    def test_the_number_of_tuples(self):
        self.check(False, [])
        self.check(False, THREE[:2])
        self.check(False, [((1, 1), plane(0, 0, 0))])
        roof = read("0 0 0; 0 2 0; 1 1 -1; 2 0 0; 2 2 0")
        four = [((1, 4), one) for one in roof if one != plane(1, 1, -1)]
        self.check(False, four, plane(1, 1, -1), roof)
        self.check(True, [(HALF, roof[0]), (HALF, roof[4])], plane(1, 1, -1), roof)

    def test_each_that_is_told_and_no_other_plane(self):
        for roof in samples.sample_roofs():
            for one, parts in struck(roof):
                self.check(True, parts, one, roof)
                self.check(True, parts[::-1], one, roof)
                for other in roof:
                    if other != one:
                        self.check(False, parts, other, roof)


class Alones(unittest.TestCase):
    def test_alone_on_top(self):
        roof = read("0 0 0; 0 1 0; 1 0 -3/2")
        self.assertIs(Alone(plane(0, 0, 0), at(0, -1)).holds(roof), True)
        self.assertIs(Alone(plane(0, 1, 0), at(0, HAIR)).holds(roof), True)
        self.assertIs(Alone(plane(1, 0, "-3/2"), at(5, 0)).holds(roof), True)

    def test_not_alone_or_not_on_top(self):
        roof = read("0 0 0; 0 1 0; 1 0 -3/2")
        self.assertIs(Alone(plane(0, 0, 0), at(0, 0)).holds(roof), False)
        self.assertIs(Alone(plane(0, 1, 0), at(0, 0)).holds(roof), False)
        self.assertIs(Alone(plane(0, 1, 0), at(0, -1)).holds(roof), False)
        self.assertIs(Alone(plane(1, 0, "-3/2"), at("3/2", 0)).holds(roof), False)

    def test_not_of_the_roof(self):
        roof = read("0 0 0; 0 1 0; 1 0 -3/2")
        self.assertIs(Alone(plane(0, 0, 1), at(0, -1)).holds(roof), False)
        self.assertIs(Alone(plane(5, 5, 99), at(0, -1)).holds(roof), False)
        self.assertIs(Alone(plane(0, 0, 0), at(0, -1)).holds(roof[1:]), False)

    def test_one_plane(self):
        self.assertIs(Alone(plane(3, 4, 5), at(7, 7)).holds([plane(3, 4, 5)]), True)

    def test_just_one_plane_is_alone(self):
        for roof in samples.sample_roofs()[::3]:
            for one, point in staying(roof):
                self.assertEqual([Alone(other, point).holds(roof) for other in roof], [other == one for other in roof])


class Balances(unittest.TestCase):
    def test_whatever_order(self):
        roof = read("0 0 0; 0 1 0; 1 0 0; 1 1 -1")
        for rows in itertools.permutations([((-1, 0), 1), ((0, -1), 1), ((1, 1), 1)]):
            self.assertIs(Balance(at(0, 0), list(rows)).holds(roof), True)
            self.assertIs(Balance(at(1, 1), list(rows)).holds(roof), False)

    def test_put_otherwise(self):
        roof = read("0 0 0; 0 2 0; 2 0 0; 2 2 -2")
        right = [((-1, 0), 2), ((0, -1), 2), ((1, 1), 2)]
        self.assertIs(Balance(at(0, 0), right).holds(roof), True)
        for rows in ([], right[:2], right[1:], right + right[:1], right + [((0, 0), 0)], right + [((5, 5), 0)],
                     right[:2] + [((1, 1), 1)], right[:2] + [((2, 2), 1)], right[:2] + [((-1, -1), -2)],
                     [((0, 0), 7)], [((-1, 0), 1), ((0, -1), 1), ((1, 1), 1)], right + right):
            self.assertIs(Balance(at(0, 0), rows).holds(roof), False)

    def test_no_corner(self):
        roof = read("0 0 0; 0 1 0; 1 0 0; 1 1 -1")
        for point in (at("1/2", "1/2"), at(-1, 0), at(5, 5), at(HAIR, HAIR)):
            for rows in ([], [((-1, -1), 1), ((1, 1), 1)], [((-1, 0), 1), ((0, -1), 1), ((1, 1), 1)]):
                self.assertIs(Balance(point, rows).holds(roof), False)
        self.assertIs(Balance(at(0, 0), []).holds(read("3 4 1/2")), False)

    def test_moved_away(self):
        for roof in samples.sample_roofs()[::6]:
            for point in corners(roof):
                balance = Balance(point, leaving(roof, point))
                self.assertIs(balance.holds(roof), True)
                self.assertIs(balance.holds(moved(roof, at(HAIR, 1))), point in corners(moved(roof, at(HAIR, 1))))


class Papers(unittest.TestCase):
    def test_one_plane(self):
        told_papers = papers(read("3 4 1/2"))
        self.assertEqual([type(paper) for paper in told_papers], [Alone])
        self.assertEqual(told_papers[0].plane, plane(3, 4, "1/2"))

    def test_struck_out_planes_and_corners(self):
        told_papers = papers(ROOF)
        self.assertEqual([type(paper) for paper in told_papers],
                         [Alone, Alone, Mixture, Mixture, Mixture, Alone, Balance])
        self.assertEqual([paper.plane for paper in told_papers[:6]], ROOF)
        self.assertEqual(told_papers[6].point, at(0, 0))
        self.assertEqual(told_papers[6].rows, [((-1, 0), 3), ((0, -1), 3), ((1, 1), 3)])

    def test_of_many_roofs(self):
        for roof in samples.sample_roofs() + [samples.long_roof(60)]:
            told_papers = papers(roof)
            self.assertIs(type(told_papers), list)
            stay = thinned(roof)
            points = corners(roof)
            self.assertEqual([type(paper) for paper in told_papers],
                             [Alone if one in stay else Mixture for one in roof] + [Balance] * len(points))
            self.assertEqual([paper.plane for paper in told_papers[:len(roof)]], roof)
            self.assertEqual([paper.point for paper in told_papers[len(roof):]], points)
            for paper in told_papers:
                self.assertIs(paper.holds(roof), True)

    def test_with_the_thinned_roof(self):
        for roof in samples.sample_roofs()[::4]:
            stay = thinned(roof)
            for paper in papers(roof):
                self.assertIs(paper.holds(stay), not isinstance(paper, Mixture))

    def test_own_lists(self):
        roof = list(ROOF)
        first = papers(roof)
        self.assertEqual(roof, ROOF)
        expected = [said(paper) for paper in first]
        for paper in first:
            samples.spoil(list(vars(paper).values()))
        first.clear()
        second = papers(roof)
        self.assertEqual([said(paper) for paper in second], expected)
        samples.spoil(roof)
        self.assertEqual([said(paper) for paper in second], expected)
        self.assertTrue(all(paper.holds(ROOF) for paper in second))


if __name__ == "__main__":
    unittest.main()
