"""Point 15: making tables, adding and multiplying them, and calling them on sequences."""

import unittest

from seenrows.errors import BadPrime, BadRow, BadSequences, BadWidth, UnlikeTables
from seenrows.filters import Filter
from seenrows.sequences import Sequence
from seenrows.tables import Table
from tests.plain import (
    NO_LISTS, NO_PRIMES, PRIMES, chance_of, slow_filtered, slow_sum, some_rows, some_sequence, told_row,
)

ONE, STEP = Filter(3, [(0, 1)]), Filter(3, [(0, 2), (1, 1)])
NONE = Filter(3)
NO_WIDTHS = (None, True, False, 0, -1, -(10 ** 30), "", "1", [], [1], (1,), {}, Filter(3), Sequence.zero(3))
NO_ROWS = (
    None, True, 0, 2, "", "ab", {}, {0: ONE, 1: ONE}, [], (), [ONE], (ONE,), [ONE, STEP, NONE], [None, ONE], [ONE, 1],
    (ONE, "1@0"), [ONE, [(0, 1)]], [ONE, Filter(2)], (Filter(5, [(0, 1)]), ONE), [ONE, [ONE]], [[ONE, ONE]], ONE, NONE,
    [Sequence.zero(3), ONE], Table(3, 2), Table(3, 2, [[ONE, ONE]]), [True, ONE], [ONE, 0],
)


class Making(unittest.TestCase):
    def test_a_small_one(self):
        t = Table(3, 2, [[ONE, STEP], (NONE, ONE)])
        self.assertEqual((t.prime, t.width, len(t)), (3, 2, 2))
        self.assertEqual(t.rows(), [[ONE, STEP], [NONE, ONE]])
        self.assertEqual(list(t), [(ONE, STEP), (NONE, ONE)])
        self.assertEqual([type(row) for row in t], [tuple, tuple])
        self.assertEqual([type(row) for row in t.rows()], [list, list])

    def test_without_rows(self):
        for t in (Table(5, 3), Table(5, 3, []), Table(5, 3, ()), Table(prime=5, width=3), Table(width=3, rows=[], prime=5)):
            self.assertEqual((t.prime, t.width, len(t), t.rows(), list(t)), (5, 3, 0, [], []))
            self.assertEqual(t, Table(5, 3))

    def test_lists_and_tuples(self):
        wanted = Table(3, 2, [[ONE, STEP], [NONE, ONE]])
        for rows in (((ONE, STEP), (NONE, ONE)), [(ONE, STEP), [NONE, ONE]], ([ONE, STEP], [NONE, ONE])):
            self.assertEqual(Table(3, 2, rows), wanted)
            self.assertEqual(Table(prime=3, width=2, rows=rows), wanted)

    def test_nothing_is_refused_for_being_larger(self):
        self.assertEqual(Table(2, 10 ** 30).width, 10 ** 30)
        self.assertEqual(len(Table(2, 10 ** 30).least()), 0)
        t = Table(2, 40, [[Filter.shift(2, k)] * 40 for k in range(30)])
        self.assertEqual((len(t), t.width, t.rank()), (30, 40, 1))

    def test_what_is_passed_is_copied_and_not_changed(self):
        row, rows = [ONE, STEP], [[NONE, ONE]]
        rows.append(row)
        t = Table(3, 2, rows)
        self.assertEqual(rows, [[NONE, ONE], [ONE, STEP]])
        row[0] = NONE
        rows.append([ONE, ONE])
        rows[0][0] = STEP
        self.assertEqual(t.rows(), [[NONE, ONE], [ONE, STEP]])

    def test_what_is_returned_is_new(self):
        t = Table(3, 2, [[ONE, STEP]])
        got = t.rows()
        got[0][0] = NONE
        got.append([ONE, ONE])
        self.assertEqual(t.rows(), [[ONE, STEP]])
        self.assertEqual(len(t), 1)

    def test_equality(self):
        t = Table(3, 2, [[ONE, STEP], [NONE, ONE]])
        self.assertIs(t == Table(3, 2, ((ONE, STEP), (NONE, Filter(3, [(0, 4)])))), True)
        self.assertIs(t != Table(3, 2, ((ONE, STEP), (NONE, ONE))), False)
        for other in (
            Table(3, 2, [[NONE, ONE], [ONE, STEP]]), Table(3, 2, [[ONE, STEP]]), Table(3, 2),
            Table(3, 2, [[ONE, STEP], [NONE, ONE], [NONE, ONE]]), Table(3, 2, [[ONE, STEP], [NONE, STEP]]),
        ):
            self.assertIs(t == other, False)
            self.assertIs(t != other, True)
        self.assertNotEqual(Table(3, 2), Table(3, 1))
        self.assertNotEqual(Table(3, 2), Table(2, 2))
        # The rows are told, not what they combine to.
        self.assertNotEqual(Table(3, 1, [[ONE]]), Table(3, 1, [[2 * ONE]]))

    def test_a_table_equals_nothing_else(self):
        for t in (Table(3, 2), Table(3, 2, [[ONE, STEP]])):
            for thing in (None, True, 0, "", [], (), {}, t.rows(), tuple(t), [t], ONE, Sequence.zero(3)):
                self.assertIs(t == thing, False)
                self.assertIs(thing == t, False)
                self.assertIs(t != thing, True)


class Wrong(unittest.TestCase):
    def test_no_primes(self):
        for thing in NO_PRIMES:
            for width, rows in ((1, ()), (None, None), (0, [None])):
                with self.subTest(thing=thing), self.assertRaises(BadPrime) as caught:
                    Table(thing, width, rows)
                self.assertIs(caught.exception.prime, thing)

    def test_no_widths(self):
        for thing in NO_WIDTHS:
            for rows in ((), None, [None]):
                with self.subTest(thing=thing), self.assertRaises(BadWidth) as caught:
                    Table(3, thing, rows)
                self.assertIs(caught.exception.width, thing)
                with self.assertRaises(BadWidth):
                    Table(prime=3, width=thing)

    def test_no_lists_of_rows(self):
        for thing in tuple(NO_LISTS) + (Table(3, 2), Table(3, 2, [[ONE, ONE]])):
            with self.subTest(thing=thing), self.assertRaises(BadRow) as caught:
                Table(3, 2, thing)
            self.assertEqual((type(caught.exception.index), caught.exception.index), (int, 0))

    def test_no_rows_at_each_place(self):
        good = [[ONE, STEP], (NONE, ONE), [NONE, NONE]]
        for thing in NO_ROWS:
            for at in range(4):
                for rows in (good[:at] + [thing] + good[at:], tuple(good[:at] + [thing, None] + good[at:])):
                    with self.subTest(thing=thing, at=at), self.assertRaises(BadRow) as caught:
                        Table(3, 2, rows)
                    self.assertEqual((type(caught.exception.index), caught.exception.index), (int, at))


class SumsAndProducts(unittest.TestCase):
    def test_sums(self):
        t, u = Table(3, 2, [[ONE, STEP], [NONE, ONE]]), Table(3, 2, [[STEP, NONE]])
        self.assertEqual((t + u).rows(), [[ONE, STEP], [NONE, ONE], [STEP, NONE]])
        self.assertEqual((u + t).rows(), [[STEP, NONE], [ONE, STEP], [NONE, ONE]])
        self.assertEqual((t + t).rows(), t.rows() * 2)
        self.assertEqual((t + Table(3, 2), Table(3, 2) + t, Table(3, 2) + Table(3, 2)), (t, t, Table(3, 2)))
        kept = t
        kept += u
        self.assertEqual((kept, t.rows(), u.rows()), (t + u, [[ONE, STEP], [NONE, ONE]], [[STEP, NONE]]))

    def test_products_against_the_plain_way(self):
        chance = chance_of(131)
        for prime in PRIMES:
            for k in range(20):
                many, between, width = chance.randint(0, 4), chance.randint(1, 4), chance.randint(1, 4)
                t = Table(prime, between, some_rows(chance, prime, between, many, 4, 24))
                u = Table(prime, width, some_rows(chance, prime, width, between, 4, 24))
                before = t.rows(), u.rows()
                v = t * u
                self.assertEqual((v.prime, v.width, len(v)), (prime, width, many))
                for got, row in zip(v.rows(), t.rows()):
                    self.assertEqual(told_row(got), slow_sum(prime, width, row, u.rows()))
                self.assertEqual((t.rows(), u.rows()), before)

    def test_a_product_gives_what_both_give(self):
        chance = chance_of(132)
        for prime in PRIMES:
            t, u = Table(prime, 3, some_rows(chance, prime, 3, 2)), Table(prime, 2, some_rows(chance, prime, 2, 3))
            xs = [some_sequence(chance, prime) for column in range(2)]
            self.assertEqual((t * u)(xs), t(u(xs)))

    def test_one_times_a_table(self):
        t = Table(3, 2, [[ONE, STEP], [NONE, ONE], [STEP, STEP]])
        self.assertEqual(Table(3, 3, [[ONE, NONE, NONE], [NONE, ONE, NONE], [NONE, NONE, ONE]]) * t, t)
        self.assertEqual(t * Table(3, 2, [[ONE, NONE], [NONE, ONE]]), t)
        self.assertEqual(Table(3, 3) * t, Table(3, 2))
        kept = t
        kept *= Table(3, 1, [[ONE], [STEP]])
        self.assertEqual((kept.width, len(t), t.width), (1, 3, 2))

    def test_unlike_tables(self):
        t = Table(3, 2, [[ONE, STEP]])
        for other in (Table(3, 1), Table(3, 3), Table(2, 2), Table(2, 1), Table(3, 1, [[ONE]])):
            for call in (lambda: t + other, lambda: other + t):
                with self.assertRaises(UnlikeTables):
                    call()
        for other in (Table(3, 2), t, t + t + t, Table(3, 5), Table(2, 2, [[Filter(2)] * 2] * 2)):
            with self.assertRaises(UnlikeTables):
                t * other
        self.assertEqual(len(t * (t + t)), 1)
        with self.assertRaises(UnlikeTables):
            Table(2, 2) * (t + t)
        with self.assertRaises(UnlikeTables):
            Table(3, 1) * Table(3, 1)


class Calls(unittest.TestCase):
    def test_a_small_one(self):
        x, y = Sequence.repeated(3, [1, 2]), Sequence.repeated(3, [1, 0, 0])
        t = Table(3, 2, [[ONE, STEP], [NONE, ONE], [NONE, NONE]])
        self.assertEqual(t([x, y]), [x + STEP(y), y, Sequence.zero(3)])
        self.assertEqual(t((x, y)), t([x, y]))
        self.assertEqual(t(sequences=[x, y]), t([x, y]))
        self.assertIs(type(t((x, y))), list)
        self.assertEqual(Table(3, 2)([x, y]), [])

    def test_against_the_plain_way(self):
        chance = chance_of(133)
        for prime in PRIMES:
            for k in range(8):
                width, many = chance.randint(1, 5), chance.randint(1, 5)
                t = Table(prime, width, some_rows(chance, prime, width, many, 4, 24))
                xs = [some_sequence(chance, prime) for column in range(width)]
                known = [dict(zip(range(-50, 50), x.digits(-50, 100))) for x in xs]
                for y, row in zip(t(xs), t.rows()):
                    for i in (-20, -7, 0, 3, 20):
                        plain = sum(slow_filtered(f, digits.get, i) for f, digits in zip(row, known)) % prime
                        self.assertEqual(y[i], plain)

    def test_far_places(self):
        chance = chance_of(134)
        t = Table(5, 3, some_rows(chance, 5, 3, 2, 4, 24))
        xs = [some_sequence(chance, 5) for column in range(3)]
        for at in (10 ** 31, -(10 ** 31)):
            for y, row in zip(t(xs), t.rows()):
                plain = sum(slow_filtered(f, lambda place: x[place], at) for f, x in zip(row, xs)) % 5
                self.assertEqual(y[at], plain)

    def test_what_is_passed_stays_and_what_is_returned_is_new(self):
        x, t = Sequence.repeated(3, [1, 2]), Table(3, 1, [[ONE], [STEP]])
        xs = [x]
        got = t(xs)
        got[0] = None
        self.assertEqual((xs, t(xs)), ([x], [x, STEP(x)]))

    def test_no_sequences(self):
        x, t = Sequence.repeated(3, [1, 2]), Table(3, 2, [[ONE, STEP]])
        for thing in tuple(NO_LISTS) + (
            x, [], (), [x], (x,), [x, x, x], [x, None], [None, x], (x, ONE), [x, [x]], [[x, x]], [x, Sequence.zero(2)],
            [Sequence.repeated(5, [1]), x], [x, 0], {0: x, 1: x}, t, [1, 2], [x.digits(0, 2), x],
        ):
            with self.subTest(thing=thing), self.assertRaises(BadSequences):
                t(thing)
            with self.assertRaises(BadSequences):
                Table(3, 2)(thing)


if __name__ == "__main__":
    unittest.main()
