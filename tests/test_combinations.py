"""Points 16 to 19: combinations, factors, least tables, rests, checks and what two tables have in common."""

import unittest

from seenrows.errors import BadRow, NoRows, UnlikeTables
from seenrows.filters import Filter
from seenrows.sequences import Sequence
from seenrows.solving import solve
from seenrows.tables import Table
from tests.plain import (
    NO_LISTS, PRIMES, all_filters, chance_of, is_least, slow_checks, slow_elimination, slow_has, slow_sum, some_filter,
    some_row, some_rows, some_sequence, told_row,
)

ONE, STEP = Filter(3, [(0, 1)]), Filter(3, [(0, 2), (1, 1)])
PLUS = Filter(3, [(0, 1), (1, 1)])
NONE = Filter(3)
NO_ROWS = (
    None, True, False, 0, 2, "", "ab", {}, {0: ONE, 1: ONE}, [], (), [ONE], (ONE,), [ONE, STEP, NONE], [None, ONE],
    [ONE, 1], (ONE, "1@0"), [ONE, [(0, 1)]], [ONE, Filter(2)], (Filter(5), Filter(5)), [ONE, [ONE]], [[ONE, ONE]], ONE,
    NONE, [Sequence.zero(3), ONE], Table(3, 2), Table(3, 2, [[ONE, ONE]]), [NONE, False], [[NONE, NONE]],
)


def some_tables(seed, count, rows=4, width=3, most=3, reach=2):
    """Small tables of each prime; some of their rows depend on the others."""
    chance = chance_of(seed)
    for prime in PRIMES:
        for k in range(count):
            wide = chance.randint(1, width)
            made = some_rows(chance, prime, wide, chance.randint(0, rows), most, reach)
            if made and chance.random() < 0.4:
                made.insert(0, some_sum(chance, prime, wide, made))
            if chance.random() < 0.2:
                made = [[Filter(prime)] + row[1:] for row in made]
            yield chance, Table(prime, wide, made)


def some_sum(chance, prime, width, rows):
    """A combination of the rows, worked out the plain way."""
    return filters(prime, slow_sum(prime, width, [some_filter(chance, prime, 3, 2) for row in rows], rows))


def filters(prime, row):
    return [Filter(prime, sorted(column.items())) for column in row]


def wide_table(chance, prime, rows, width, reach=24):
    return Table(prime, width, [
        [Filter(prime, [(k, chance.randint(0, prime - 1)) for k in range(-reach, reach + 1)]) for column in range(width)]
        for row in range(rows)
    ])


class Combinations(unittest.TestCase):
    def check_factors(self, t, row):
        found = t.factors(row)
        self.assertIs(type(found), list)
        self.assertEqual(len(found), len(t))
        self.assertTrue(all(isinstance(f, Filter) and f.prime == t.prime for f in found))
        self.assertEqual(slow_sum(t.prime, t.width, found, t.rows()), told_row(row))

    def test_small_ones(self):
        t = Table(3, 2, [[STEP, NONE], [NONE, STEP * STEP]])
        for row in ([STEP, NONE], (STEP * ONE, STEP * STEP), [NONE, NONE], [Filter.shift(3, -5) * STEP, 2 * STEP ** 3]):
            self.assertIs(row in t, True)
            self.check_factors(t, row)
        for row in ([ONE, NONE], [NONE, STEP], (STEP, STEP), [PLUS, NONE]):
            self.assertIs(row in t, False)
            self.assertIs(row not in t, True)
            self.assertIsNone(t.factors(row))

    def test_sums_of_rows(self):
        for chance, t in some_tables(141, 25):
            for row in [some_sum(chance, t.prime, t.width, t.rows())] + t.rows():
                self.assertIs(row in t, True)
                self.assertIs(tuple(row) in t, True)
                self.check_factors(t, row)
                self.check_factors(t, tuple(row))
                self.assertEqual(t.factors(row=row), t.factors(tuple(row)))

    def test_other_rows_against_elimination(self):
        for chance, t in some_tables(142, 6, 3, 2):
            plain = slow_elimination(t.prime, t.rows(), 10)
            for k in range(8):
                row = some_row(chance, t.prime, t.width, 2, 1)
                known = not plain.reduce({(c, o): d for c, f in enumerate(row) for o, d in f.terms()}, {})[0]
                self.assertIs(row in t, known, (t.prime, told_row(row)))
                if known:
                    self.check_factors(t, row)
                else:
                    self.assertIsNone(t.factors(row))

    def test_every_small_filter(self):
        for f in all_filters(2, 0, 3):
            t = Table(2, 1, [[f]])
            for g in all_filters(2, -1, 3):
                self.assertIs([g] in t, slow_has(2, [[f]], [g], 6))

    def test_without_rows(self):
        t = Table(3, 2)
        self.assertIs([NONE, NONE] in t, True)
        self.assertEqual((t.factors([NONE, NONE]), t.factors((ONE, NONE))), ([], None))
        self.assertIs([ONE, NONE] in t, False)
        nought = Table(3, 2, [[NONE, NONE]])
        self.assertIs((NONE, NONE) in nought, True)
        self.assertIs([NONE, STEP] in nought, False)
        self.assertEqual(len(nought.factors([NONE, NONE])), 1)
        self.assertIsNone(nought.factors([NONE, STEP]))

    def test_what_is_no_row_is_in_no_table(self):
        for t in (Table(3, 2), Table(3, 2, [[ONE, NONE], [NONE, ONE]]), Table(3, 2, [[ONE, STEP]])):
            for thing in NO_ROWS:
                self.assertIs(thing in t, False)

    def test_no_rows(self):
        for t in (Table(3, 2), Table(3, 2, [[ONE, NONE], [NONE, ONE]]), Table(3, 2, [[ONE, STEP]])):
            for thing in NO_ROWS:
                for call in (lambda: t.factors(thing), lambda: t.rest(thing), lambda: t.rest(row=thing)):
                    with self.subTest(thing=thing), self.assertRaises(BadRow) as caught:
                        call()
                    self.assertEqual((type(caught.exception.index), caught.exception.index), (int, 0))

    def test_part_of_another_table(self):
        for chance, t in some_tables(143, 15):
            part = Table(t.prime, t.width, [some_sum(chance, t.prime, t.width, t.rows()) for k in range(3)])
            self.assertIs(part <= t, True)
            self.assertIs(t >= part, True)
            self.assertIs(t <= t, True)
            self.assertIs(Table(t.prime, t.width) <= t, True)
            other = Table(t.prime, t.width, some_rows(chance, t.prime, t.width, 2))
            for one, two in ((t, part), (t, other), (other, t), (part, other)):
                self.assertIs(one <= two, all(row in two for row in one))

    def test_unlike_tables(self):
        t = Table(3, 2, [[ONE, STEP]])
        for other in (Table(3, 1), Table(3, 3), Table(2, 2), Table(2, 1), Table(3, 1, [[ONE]])):
            for call in (lambda: t <= other, lambda: other <= t, lambda: t & other, lambda: other & t):
                with self.assertRaises(UnlikeTables):
                    call()

    def test_what_is_passed_stays(self):
        row, t = [STEP, STEP], Table(3, 2, [[ONE, ONE]])
        t.factors(row)[0] = None
        t.rest(row).append(None)
        self.assertEqual((row, t.factors(row), row in t), ([STEP, STEP], [STEP], True))
        self.assertEqual((t.rest(row), t.rows()), ([NONE, NONE], [[ONE, ONE]]))


class LeastTables(unittest.TestCase):
    def test_a_small_one(self):
        t = Table(3, 2, [[Filter(3, [(2, 2)]), STEP], [STEP, STEP], [NONE, 2 * STEP]])
        self.assertEqual(t.least().rows(), [[ONE, NONE], [NONE, STEP]])
        self.assertEqual(t.rank(), 2)
        self.assertEqual(Table(3, 1, [[STEP * STEP], [STEP * PLUS]]).least().rows(), [[STEP]])

    def test_they_are_least_and_combine_to_the_same(self):
        for chance, t in some_tables(151, 40):
            before, least = t.rows(), t.least()
            self.assertEqual((least.prime, least.width), (t.prime, t.width))
            self.assertTrue(is_least(t.prime, least.rows()))
            self.assertEqual(t.rank(), len(least))
            for row in least:
                found = t.factors(row)
                self.assertEqual(slow_sum(t.prime, t.width, found, t.rows()), told_row(row))
            for row in t:
                found = least.factors(row)
                self.assertEqual(slow_sum(t.prime, t.width, found, least.rows()), told_row(row))
            self.assertEqual((least.least(), t.rows()), (least, before))

    def test_there_is_just_one(self):
        for chance, t in some_tables(152, 15):
            if len(t) < 2:
                continue
            rows = t.rows()
            for k in range(6):
                one, two = chance.sample(range(len(rows)), 2)
                f = some_filter(chance, t.prime, 3, 3)
                rows[one] = filters(t.prime, slow_sum(t.prime, t.width, [Filter.shift(t.prime, k), f], [rows[one], rows[two]]))
                chance.shuffle(rows)
            rows.append(some_sum(chance, t.prime, t.width, rows))
            self.assertEqual(Table(t.prime, t.width, rows).least(), t.least())
            self.assertEqual(Table(t.prime, t.width, rows).rank(), t.rank())

    def test_of_one_column(self):
        for chance, t in some_tables(153, 20, width=1):
            least = t.least()
            self.assertLessEqual(len(least), 1)
            if len(least):
                head = least.rows()[0][0]
                self.assertTrue(all(not row[0] % head for row in t))
                self.assertEqual(head, head.normal())

    def test_without_rows_and_with_empty_ones(self):
        for t in (Table(3, 2), Table(3, 2, [[NONE, NONE]]), Table(3, 2, [[NONE, NONE]] * 3)):
            self.assertEqual((t.least(), t.rank()), (Table(3, 2), 0))

    def test_a_table_that_is_nearly_least(self):
        two = Filter(3, [(0, 1), (2, 1)])
        for rows in (
            [[2 * ONE, NONE]], [[Filter.shift(3, 1), NONE]], [[two, two], [NONE, STEP]], [[NONE, STEP], [two, NONE]],
            [[two, Filter.shift(3, -1)], [NONE, STEP]], [[ONE, ONE], [NONE, NONE]],
        ):
            self.assertFalse(is_least(3, rows))
            t = Table(3, 2, rows)
            self.assertTrue(is_least(3, t.least().rows()))
            self.assertNotEqual(t.least(), t)
        t = Table(3, 2, [[two, ONE], [NONE, STEP]])
        self.assertEqual(t.least(), t)

    def test_rests(self):
        for chance, t in some_tables(154, 25):
            least = t.least()
            for k in range(4):
                row = some_row(chance, t.prime, t.width, 4, 5)
                rest = t.rest(row)
                self.assertIs(type(rest), list)
                self.assertIs([f - g for f, g in zip(row, rest)] in t, True)
                for step in least:
                    column = [at for at, f in enumerate(step) if f][0]
                    self.assertEqual(rest[column], rest[column] % step[column])
                self.assertIs(row in t, not any(rest))
                other = some_sum(chance, t.prime, t.width, t.rows())
                self.assertEqual(t.rest(tuple(f + g for f, g in zip(row, other))), rest)
                self.assertEqual((t.rest(rest), least.rest(row)), (rest, rest))
        self.assertEqual(Table(3, 2).rest((STEP, ONE)), [STEP, ONE])


class Checks(unittest.TestCase):
    def test_a_small_one(self):
        t = Table(3, 1, [[STEP], [STEP * STEP], [NONE]])
        self.assertEqual(t.checks().rows(), [[STEP, 2 * ONE, NONE], [NONE, NONE, ONE]])
        self.assertEqual(Table(3, 2, [[ONE, STEP]]).checks(), Table(3, 1))
        self.assertEqual(Table(3, 2, [[NONE, NONE]]).checks(), Table(3, 1, [[ONE]]))

    def test_they_are_all(self):
        for chance, t in some_tables(161, 12):
            if not len(t):
                continue
            checks = t.checks()
            self.assertEqual((checks.prime, checks.width, len(checks)), (t.prime, len(t), len(t) - t.rank()))
            self.assertTrue(is_least(t.prime, checks.rows()))
            for row in checks:
                self.assertEqual(slow_sum(t.prime, t.width, row, t.rows()), [{}] * t.width)
            for row in slow_checks(t.prime, t.rows(), 3):
                self.assertIs(row in checks, True)

    def test_no_rows(self):
        for t in (Table(2, 1), Table(7, 5)):
            with self.assertRaises(NoRows):
                t.checks()

    def test_what_a_table_gives(self):
        for chance, t in some_tables(162, 5):
            if not len(t):
                continue
            checks = t.checks()
            given = t([some_sequence(chance, t.prime, 3) for column in range(t.width)])
            self.assertFalse(any(checks(given)))
            others = [some_sequence(chance, t.prime, 3) for row in t]
            if any(checks(others)):
                # A change that no sequences can make up for: the check that fails tells it of every list.
                self.assertTrue(any(checks([x + y for x, y in zip(others, given)])))
            elif len(t) == 1 and any(t.rows()[0]):
                column = [at for at, f in enumerate(t.rows()[0]) if f][0]
                xs = [Sequence.zero(t.prime) for f in t.rows()[0]]
                xs[column] = solve(t.rows()[0][column], others[0])
                self.assertEqual(t(xs), others)


class InCommon(unittest.TestCase):
    def test_small_ones(self):
        t, u = Table(3, 1, [[STEP]]), Table(3, 1, [[PLUS]])
        self.assertEqual((t & u).rows(), [[(STEP * PLUS).normal()]])
        t, u = Table(3, 2, [[ONE, NONE]]), Table(3, 2, [[NONE, ONE]])
        self.assertEqual(t & u, Table(3, 2))
        self.assertEqual((t + u) & Table(3, 2, [[STEP, 2 * STEP]]), Table(3, 2, [[STEP, 2 * STEP]]))

    def test_against_elimination(self):
        for chance, t in some_tables(171, 8, 3, 2, 2, 1):
            u = Table(t.prime, t.width, some_rows(chance, t.prime, t.width, chance.randint(0, 3), 2, 1))
            both = t & u
            self.assertEqual((both.prime, both.width), (t.prime, t.width))
            self.assertTrue(is_least(t.prime, both.rows()))
            self.assertEqual(len(both), t.rank() + u.rank() - (t + u).rank())
            self.assertEqual(u & t, both)
            for row in both:
                self.assertIs(row in t and row in u, True)
            for check in slow_checks(t.prime, t.rows() + u.rows(), 4):
                row = filters(t.prime, slow_sum(t.prime, t.width, check[:len(t)], t.rows()))
                self.assertIs(row in both, True)

    def test_laws(self):
        for chance, t in some_tables(172, 8):
            zero, least = Table(t.prime, t.width), t.least()
            self.assertEqual((t & t, t & zero, zero & t), (least, zero, zero))
            u = t + Table(t.prime, t.width, some_rows(chance, t.prime, t.width, 2))
            self.assertEqual((t & u, u & t), (least, least))
            self.assertEqual(t.rows() + u.rows(), (t + u).rows())


class LargeTables(unittest.TestCase):
    def test_as_large_as_callers_pass_them(self):
        chance = chance_of(181)
        for prime in (2, 7):
            t, u = wide_table(chance, prime, 5, 5), wide_table(chance, prime, 5, 5)
            least = t.least()
            self.assertTrue(is_least(prime, least.rows()))
            self.assertIs(t <= least and least <= t, True)
            product = u * t
            self.assertIs(product <= t, True)
            found = t.factors(product.rows()[0])
            self.assertEqual((Table(prime, 5, [found]) * t).rows(), product.rows()[:1])
            both = t & u
            self.assertTrue(is_least(prime, both.rows()))
            self.assertIs(both <= t and both <= u, True)
            self.assertEqual((both & t, both.rank()), (both, 5))

    def test_checks_of_large_tables(self):
        chance = chance_of(182)
        for prime, width in ((2, 1), (3, 2), (5, 3), (7, 4)):
            t = wide_table(chance, prime, 5, width)
            checks = t.checks()
            self.assertEqual(len(checks), 5 - width)
            self.assertEqual(checks * t, Table(prime, width, [[Filter(prime)] * width] * (5 - width)))

    def test_large_tables_of_few_terms(self):
        chance = chance_of(183)
        for prime in PRIMES:
            t = Table(prime, 5, some_rows(chance, prime, 5, 5, 2, 24))
            u = Table(prime, 5, some_rows(chance, prime, 5, 3, 2, 24))
            least = t.least()
            self.assertTrue(is_least(prime, least.rows()))
            self.assertIs(t <= least and least <= t, True)
            both = t & u
            self.assertIs(both <= t and both <= u, True)
            self.assertEqual(len(both), t.rank() + u.rank() - (t + u).rank())


if __name__ == "__main__":
    unittest.main()
