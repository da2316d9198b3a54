"""Point 5: rows solved, and their determinant."""

import itertools
import unittest
from fractions import Fraction
from math import gcd, prod

from standup.errors import NoOne
from standup.rows import determinant, solved
from tests.helper import check_own, numbers, told, whole, whole_rows


def as_fractions(row):
    return [Fraction(*number) for number in row]


def by_all_ways(rows):
    """The determinant as the point tells it: a sum over all ways to pick."""
    total = Fraction(0)
    for columns in itertools.permutations(range(len(rows))):
        turned = sum(one > other for one, other in itertools.combinations(columns, 2))
        picked = prod((Fraction(*row[column]) for row, column in zip(rows, columns)), start=Fraction(1))
        total += -picked if turned % 2 else picked
    return (total.numerator, total.denominator)


def some_rows(count, seed, bottoms=1):
    tops = numbers(seed, -6, 6)
    unders = numbers(seed + 1, 1, bottoms)
    made = [[Fraction(next(tops), next(unders)) for column in range(count)] for row in range(count)]
    return [[(number.numerator, number.denominator) for number in row] for row in made]


def layered(count, diagonal):
    """Rows that are the product of rows with nought above the middle and rows with nought under it."""
    tops = numbers(count, -3, 3)
    lower = [[next(tops) if j < i else int(i == j) for j in range(count)] for i in range(count)]
    upper = [[next(tops) if j > i else diagonal[i] * (i == j) for j in range(count)] for i in range(count)]
    return whole_rows([[sum(lower[i][k] * upper[k][j] for k in range(count)) for j in range(count)]
                       for i in range(count)])


class Rows(unittest.TestCase):
    def check_form(self, number):
        self.assertIs(type(number), tuple)
        self.assertEqual([type(part) for part in number], [int, int])
        self.assertGreaterEqual(number[1], 1)
        self.assertEqual(gcd(*number), 1)

    def check_answer(self, rows, goals):
        answer = told(self, solved, rows, goals)
        self.assertIs(type(answer), list)
        self.assertEqual(len(answer), len(rows))
        for number in answer:
            self.check_form(number)
        for row, goal in zip(rows, goals):
            reached = sum((one * other for one, other in zip(as_fractions(row), as_fractions(answer))), Fraction(0))
            self.assertEqual(reached, Fraction(*goal))

    def check_refused(self, rows, goals):
        with self.assertRaises(NoOne):
            told(self, solved, rows, goals)
        self.assertEqual(told(self, determinant, rows), (0, 1))

    def check_both(self, rows, goals):
        found = told(self, determinant, rows)
        self.check_form(found)
        self.assertEqual(found, by_all_ways(rows))
        if found == (0, 1):
            self.check_refused(rows, goals)
        else:
            self.check_answer(rows, goals)


class Few(Rows):
    def test_no_rows(self):
        self.assertEqual(solved([], []), [])
        self.assertEqual(determinant([]), (1, 1))

    def test_one_row(self):
        self.assertEqual(solved([[(2, 3)]], [(-5, 7)]), [(-15, 14)])
        self.assertEqual(solved([[(-2, 1)]], [(0, 1)]), [(0, 1)])
        self.assertEqual(determinant([[(-2, 3)]]), (-2, 3))

    def test_one_row_of_nought_is_refused(self):
        self.check_refused([[(0, 1)]], [(1, 1)])
        self.check_refused([[(0, 1)]], [(0, 1)])

    def test_two_rows_by_hand(self):
        rows = [[(1, 2), (1, 3)], [(1, 4), (1, 5)]]
        self.assertEqual(solved(rows, [(1, 1), (1, 1)]), [(-8, 1), (15, 1)])
        self.assertEqual(determinant(rows), (1, 60))

    def test_the_answers_stand_in_the_order_of_the_columns(self):
        rows = whole_rows([[0, 0, 1], [1, 0, 0], [0, 1, 0]])
        self.assertEqual(solved(rows, [whole(7), whole(8), whole(9)]), [(8, 1), (9, 1), (7, 1)])

    def test_the_sign_of_turned_columns(self):
        for columns in itertools.permutations(range(4)):
            rows = whole_rows([[int(column == k) for k in range(4)] for column in columns])
            turned = sum(one > other for one, other in itertools.combinations(columns, 2))
            self.assertEqual(determinant(rows), (-1 if turned % 2 else 1, 1))

    def test_noughts_at_the_beginning(self):
        goals = [whole(3), (1, 2), whole(-4)]
        self.check_both(whole_rows([[0, 2, 1], [3, 1, 1], [1, 1, 1]]), goals)
        self.check_both(whole_rows([[0, 2, 1], [0, 1, 1], [5, 1, 1]]), goals)
        self.check_both(whole_rows([[0, 0, 3], [0, 2, 1], [4, 1, 1]]), goals)
        self.check_both(whole_rows([[0, 2, 1], [0, 1, 1], [0, 5, 2]]), goals)
        self.check_both(whole_rows([[1, 2, 3], [2, 4, 1], [0, 1, 5]]), goals)

    def test_no_answer_and_many_answers_are_refused(self):
        rows = whole_rows([[1, 2], [2, 4]])
        self.check_refused(rows, [whole(1), whole(3)])
        self.check_refused(rows, [whole(1), whole(2)])
        self.check_refused(rows, [whole(0), whole(0)])
        self.check_refused([[(1, 2), (1, 3)], [(3, 4), (1, 2)]], [whole(1), whole(1)])
        self.check_refused(whole_rows([[1, 2, 3], [4, 5, 6], [7, 8, 9]]), [whole(1)] * 3)


class Many(Rows):
    def test_every_two_rows_of_small_fractions(self):
        picks = [(-1, 1), (-1, 2), (0, 1), (1, 3), (2, 1)]
        for a, b, c, d in itertools.product(picks, repeat=4):
            self.check_both([[a, b], [c, d]], [(1, 2), (-3, 1)])

    def test_every_three_rows_of_signs(self):
        for picked in itertools.product((-1, 0, 1), repeat=9):
            rows = whole_rows([picked[:3], picked[3:6], picked[6:]])
            found = determinant(rows)
            self.assertEqual(found, by_all_ways(rows))
            if found == (0, 1):
                with self.assertRaises(NoOne):
                    solved(rows, [(1, 1), (0, 1), (2, 1)])

    def test_four_and_five_rows(self):
        for count in (3, 4, 5):
            for seed in range(12):
                self.check_both(some_rows(count, seed), some_rows(count, seed + 99)[0])
                self.check_both(some_rows(count, seed, 9), some_rows(count, seed + 99, 9)[0])

    def test_a_row_that_is_a_sum_of_others(self):
        rows = some_rows(5, 4, 7)
        last = [sum(column) for column in zip(*[as_fractions(row) for row in rows[:4]])]
        rows[4] = [(number.numerator, number.denominator) for number in last]
        self.check_both(rows, some_rows(5, 8, 7)[0])

    def test_rows_of_twenty_and_more(self):
        for count in (20, 27, 60):
            diagonal = [(-1) ** k * (k % 3 + 1) for k in range(count)]
            rows = layered(count, diagonal)
            self.assertEqual(determinant(rows), (prod(diagonal), 1))
            self.check_answer(rows, [((-1) ** k, k + 1) for k in range(count)])

    def test_rows_of_twenty_and_more_turned_about(self):
        for count in (20, 21, 22, 23):
            diagonal = [k + 1 for k in range(count)]
            rows = layered(count, diagonal)[::-1]
            turned = count * (count - 1) // 2
            self.assertEqual(determinant(rows), ((-1) ** turned * prod(diagonal), 1))
            self.check_answer(rows, [(k, 1) for k in range(count)])

    def test_rows_of_twenty_without_one_answer(self):
        diagonal = [1] * 22
        diagonal[21] = 0
        self.check_refused(layered(22, diagonal), [whole(1)] * 22)
        diagonal[21] = 1
        diagonal[0] = 0
        self.check_refused(layered(22, diagonal), [whole(0)] * 22)

    def test_fractions_of_twenty_rows(self):
        rows = [[(1, i + j + 1) for j in range(20)] for i in range(20)]
        self.check_answer(rows, [whole(1)] * 20)
        below_one = prod((2 * k + 1) * prod(range(k + 1, 2 * k + 1)) ** 2 // prod(range(1, k + 1)) ** 2
                         for k in range(20))
        self.assertEqual(determinant(rows), (1, below_one))

    def test_numbers_of_many_figures(self):
        great = 10 ** 400 + 1
        rows = [[(great, 3), (1, great)], [(-1, great), (2, great + 2)]]
        self.check_both(rows, [(great, 7), (1, 2)])
        self.check_refused([[whole(great), whole(2 * great)], [(1, great), (2, great)]], [whole(1), whole(1)])


class Own(Rows):
    def test_rows_and_goals_stay_and_answers_are_the_askers_own(self):
        rows = [[(0, 1), (1, 3), (2, 1)], [(1, 2), (0, 1), (1, 1)], [(3, 1), (1, 1), (-1, 5)]]
        check_own(self, solved, rows, [(1, 1), (2, 1), (3, 7)])
        check_own(self, solved, [], [])
        told(self, determinant, rows)


if __name__ == "__main__":
    unittest.main()
