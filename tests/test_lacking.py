"""Points 28 to 30: how much a watcher lacks, and what can be chosen freely beside what it sees."""

import itertools
import unittest

from seenrows.errors import BadDigits, BadSequences, Impossible, UnlikeWorlds
from seenrows.filters import Filter
from seenrows.lacking import Missing, lacks, missing
from seenrows.sequences import Sequence
from seenrows.views import broken
from seenrows.worlds import Watcher, World
from tests.pairs import all_pairs, digit_at, known_pairs, mixing, apart, row_digits, some_case, some_pairs, special_pairs
from tests.plain import FAR, NO_LISTS, PRIMES, chance_of, some_digits, some_sequence
from tests.test_combinations import wide_table
from tests.test_telling import FREE, NONE, ONE, OTHERS, PLUS, RULED, SAME, STEP
from tests.test_views import changed

X, Y = Sequence.repeated(3, [0, 1, 1, 2]), Sequence.repeated(3, [1, 2])
ZERO = Sequence.zero(3)


def choice(chance, m, span=4):
    """Sequences and digits that are chosen for what is missing."""
    f, t = m.counts
    prime = m.watcher.world.prime
    return [some_sequence(chance, prime, span) for k in range(f)], some_digits(chance, prime, t)


def other_choice(chance, m, shown, digits):
    """A choice that differs from this one in one thing."""
    f, t = m.counts
    prime = m.watcher.world.prime
    shown, digits = list(shown), list(digits)
    at = chance.randrange(f + t)
    if at < f:
        shown[at] = shown[at] + Sequence.repeated(prime, [0, 0, 1])
    else:
        digits[at - f] = (digits[at - f] + 1) % prime
    return shown, digits


class Numbers(unittest.TestCase):
    def test_small_ones(self):
        for mine, its, counts in (
            ([], [], (0, 0)), ([], [[ONE, NONE]], (1, 0)), ([], [[STEP, PLUS]], (1, 0)),
            ([], [[ONE, NONE], [NONE, STEP]], (2, 0)), ([[STEP, NONE]], [[ONE, NONE]], (0, 1)),
            ([[STEP * PLUS ** 3, NONE]], [[ONE, NONE]], (0, 4)), ([[STEP * PLUS, NONE]], [[PLUS, NONE]], (0, 1)),
            ([[STEP, NONE]], [[ONE, ONE]], (1, 0)), ([[STEP, NONE]], [[ONE, NONE], [NONE, ONE]], (1, 1)),
            ([[ONE, ONE]], [[ONE, NONE]], (1, 0)), ([[ONE, ONE], [NONE, ONE]], [[ONE, NONE]], (0, 0)),
            ([[Filter(3, [(-2, 1), (3, 1)]), NONE]], [[ONE, NONE]], (0, 5)),
        ):
            with self.subTest(mine=mine, its=its):
                P, Q = Watcher(FREE, mine), Watcher(FREE, its)
                got = lacks(P, Q)
                self.assertEqual((type(got), [type(number) for number in got], got), (tuple, [int, int], counts))
                self.assertEqual(lacks(watcher=P, other=Q), counts)
                self.assertEqual((missing(P, Q).counts, missing(watcher=P, other=Q).counts), (counts, counts))

    def test_rules_count(self):
        self.assertEqual(lacks(RULED.nothing(), RULED.everything()), (1, 0))
        self.assertEqual(lacks(Watcher(RULED, [[NONE, ONE]]), RULED.everything()), (0, 1))
        self.assertEqual(lacks(Watcher(RULED, [[ONE, NONE]]), RULED.everything()), (0, 0))
        world = World(3, 2, [[STEP ** 2, NONE], [NONE, PLUS ** 5]])
        self.assertEqual(lacks(world.nothing(), world.everything()), (0, 7))
        self.assertEqual(lacks(Watcher(world, [[STEP, PLUS]]), world.everything()), (0, 2))
        shut = World(3, 2, [[ONE, PLUS], [NONE, ONE]])
        self.assertEqual(lacks(shut.nothing(), shut.everything()), (0, 0))

    def test_known_numbers(self):
        seen = [0, 0, 0, 0]
        for P, Q, counts, word, more in known_pairs(281, 40):
            self.assertEqual(lacks(P, Q), counts)
            self.assertEqual(missing(P, Q).counts, counts)
            self.assertEqual(lacks(P, Watcher(Q.world, Q.rows() + more)), counts)
            self.assertEqual(lacks(Watcher(P.world, P.rows() + more), Q), counts)
            seen[2 * bool(counts[0]) + bool(counts[1])] += 1
        self.assertGreater(min(seen), 4)

    def test_nothing_is_lacking_if_each_row_is_known(self):
        for chance, P, Q in all_pairs(282, 12):
            self.assertIs(lacks(P, Q) == (0, 0), Q <= P)
            self.assertEqual(lacks(P, P), (0, 0))
            self.assertEqual(lacks(P, P.world.nothing()), (0, 0))

    def test_the_first_numbers_add_up(self):
        for chance, P, Q in all_pairs(301, 10):
            N = P.world.nothing()
            self.assertEqual(lacks(N, P)[0] + lacks(P, Q)[0], lacks(N, P + Q)[0])
            self.assertEqual(lacks(P, P + Q), lacks(P, Q))

    def test_further_rows(self):
        count = 0
        for chance, P, Q in all_pairs(302, 8):
            m = missing(P, Q)
            f, t = m.counts
            rows = m.rows()
            self.assertEqual(lacks(P + Watcher(P.world, rows), Q), (0, t))
            if f:
                drawn = [wide_table(chance, P.world.prime, 1, P.world.width, 2).rows()[0] for k in range(f - 1)]
                for fewer in (rows[1:], rows[:-1], drawn):
                    self.assertGreater(lacks(P + Watcher(P.world, fewer), Q)[0], 0)
                count += 1
        self.assertGreater(count, 3)


class Choices(unittest.TestCase):
    def check_case(self, m, P, shown, digits, case):
        """Look at the digits of a case for a choice, from before the spots to behind them and over all rules' spans."""
        world = P.world
        self.assertIs(world.is_case(case), True)
        last = 20 + 2 * max([x.rule().span() for x in case])
        for row in world.rules().rows() + P.rows():
            self.assertFalse(any(row_digits(row, case, -20, last)))
        for row, x in zip(m.rows(), shown):
            self.assertEqual(row_digits(row, case, -20, last), x.digits(-20, 20 + last))
        for (row, place), digit in zip(m.spots(), digits):
            self.assertEqual(digit_at(row, case, place), digit)

    def check(self, chance, P, Q):
        m = missing(P, Q)
        f, t = m.counts
        self.assertEqual((len(m.rows()), len(m.spots())), (f, t))
        shown, digits = choice(chance, m)
        case = m.case(shown, digits)
        self.check_case(m, P, shown, digits, case)
        self.assertEqual(P(case), [Sequence.zero(P.world.prime) for row in P.rows()])
        # Another case with the same choice: beside it Q sees zeros, P and what is chosen too.
        beside = missing(P + Q, P.world.everything())
        more = [x + y for x, y in zip(case, beside.case(*choice(chance, beside)))]
        self.check_case(m, P, shown, digits, more)
        self.assertEqual(Q(more), Q(case))
        if f + t:
            others = other_choice(chance, m, shown, digits)
            self.assertNotEqual(Q(m.case(*others)), Q(case))
        return f + t

    def test_drawn_choices(self):
        self.assertGreater(len([1 for chance, P, Q in some_pairs(283, 10) if self.check(chance, P, Q)]), 8)

    def test_known_pairs(self):
        chance = chance_of(284)
        for P, Q, counts, word, more in known_pairs(285, 8):
            self.check(chance, P, Q)

    def test_special_pairs(self):
        chance = chance_of(286)
        for P, Q in special_pairs():
            self.check(chance, P, Q)

    def test_wide_rows(self):
        chance = chance_of(287)
        for prime in (2, 7):
            for rules, mine, its in ((0, 1, 2), (0, 2, 3), (0, 3, 3), (1, 2, 2), (2, 1, 4), (3, 0, 1)):
                world = World(prime, 3, wide_table(chance, prime, rules, 3).rows())
                P = Watcher(world, wide_table(chance, prime, mine, 3).rows())
                self.check(chance, P, Watcher(world, wide_table(chance, prime, its, 3).rows()))

    def test_digits_are_seen_one_by_one(self):
        """Each choice of few digits gives Q a view of its own, and each view of Q beside zeros of P is one of these."""
        count = 0
        for prime in (2, 3):
            chance = chance_of(288)
            parts = [Filter(prime, [(0, 1), (1, 1), (2, -1)]), Filter(prime, [(0, 1), (1, 1)])]
            mixed = mixing(chance, prime, 2)
            world = World(prime, 2, apart(prime, [parts[0] * parts[1], NONE if prime == 3 else Filter(2)], mixed))
            P, Q = Watcher(world, apart(prime, parts, mixed)), world.everything()
            m = missing(P, Q)
            f, t = m.counts
            self.assertEqual((f, t), (0, 3))
            views = []
            for digits in itertools.product(range(prime), repeat=t):
                views.append(Q(m.case([], digits)))
            for at, view in enumerate(views):
                self.assertNotIn(view, views[:at])
            rules = Watcher(world, P.rows() + world.rules().rows())
            for k in range(6):
                other = missing(rules, Q)
                case = other.case([], some_digits(chance, prime, t))
                self.assertEqual(P(case), [Sequence.zero(prime)] * 2)
                self.assertIn(Q(case), views)
                count += 1
        self.assertEqual(count, 12)

    def test_what_is_returned_is_new_and_the_same_again(self):
        for chance, P, Q in some_pairs(289, 5):
            m, again = missing(P, Q), missing(Watcher(P.world, P.rows()), Q)
            rows, spots = m.rows(), m.spots()
            self.assertEqual((again.rows(), again.spots(), again.counts), (rows, spots, m.counts))
            self.assertTrue(m == again)
            self.assertFalse(m != again or m == 1 or m == m.counts)
            shown, digits = choice(chance, m)
            kept = (list(shown), list(digits))
            case = m.case(shown, digits)
            self.assertEqual(again.case(tuple(shown), tuple(digits)), case)
            self.assertEqual(m.case(shown=shown, digits=digits), case)
            self.assertEqual((shown, digits), kept)
            for row in rows + [row for row, place in spots]:
                row[0] = None
            rows.append(None)
            spots.clear()
            case.clear()
            self.assertEqual((m.rows(), m.spots()), (again.rows(), again.spots()))

    def test_kinds(self):
        m = missing(Watcher(FREE, [[STEP * STEP, NONE]]), FREE.everything())
        self.assertIs(type(m), Missing)
        self.assertEqual(m.counts, (1, 2))
        self.assertEqual((type(m.rows()), [type(row) for row in m.rows()]), (list, [list]))
        self.assertEqual([[type(f) for f in row] for row in m.rows()], [[Filter, Filter]])
        spots = m.spots()
        self.assertEqual((type(spots), [type(spot) for spot in spots]), (list, [tuple, tuple]))
        for row, place in spots:
            self.assertEqual((type(row), len(row), type(place)), (list, 2, int))
        self.assertEqual(type(m.case([X], [1, 2])), list)
        self.assertIs(type(Missing.counts), property)

    def test_no_choices(self):
        m = missing(Watcher(FREE, [[STEP * STEP, NONE]]), FREE.everything())
        for thing in tuple(NO_LISTS) + (
            [], (), [X, X], [None], [[X]], [0], [ONE], (Sequence.zero(2),), {0: X}, X, [X, None], ["0"], m, FREE,
        ):
            for digits in ([0, 1], None, [3, 3]):
                with self.subTest(thing=thing), self.assertRaises(BadSequences):
                    m.case(thing, digits)
                with self.subTest(thing=thing), self.assertRaises(BadSequences):
                    m.worked([ZERO], thing, digits)
        for thing in tuple(NO_LISTS) + (
            [], (), [0], [0, 1, 2], [0, 3], [-1, 0], [True, 0], [0, None], ["0", "1"], [[0, 1]], {0: 0, 1: 1}, [0, ONE],
            m, X, FREE,
        ):
            with self.subTest(thing=thing), self.assertRaises(BadDigits):
                m.case([X], thing)
            with self.subTest(thing=thing), self.assertRaises(BadDigits):
                m.worked([ZERO], [X], thing)
        none = missing(FREE.everything(), FREE.nothing())
        self.assertEqual((none.rows(), none.spots(), none.case((), ())), ([], [], FREE.zeros()))
        for shown, digits, error in (([X], [], BadSequences), ([], [0], BadDigits), (None, None, BadSequences)):
            with self.assertRaises(error):
                none.case(shown, digits)


class Worked(unittest.TestCase):
    def test_a_small_one(self):
        P, Q = Watcher(FREE, [[STEP, NONE]]), Watcher(FREE, [[ONE, NONE]])
        m = missing(P, Q)
        self.assertEqual(m.counts, (0, 1))
        (row, place), = m.spots()
        for digit in range(3):
            (got,) = m.worked([STEP(X)], [], [digit])
            self.assertEqual(STEP(got), STEP(X))
            self.assertEqual(digit_at(row, [got, ZERO], place), digit)
        self.assertEqual(m.worked(view=(STEP(X),), shown=(), digits=(2,)), m.worked([STEP(X)], [], [2]))
        self.assertEqual(type(m.worked([STEP(X)], [], [2])), list)

    def test_views_of_cases(self):
        """Any case with a view, and what is chosen read off it, tells Q's view."""
        count = 0
        for chance, P, Q in all_pairs(291, 6):
            m = missing(P, Q)
            for k in range(2):
                case = some_case(chance, P)
                shown = [
                    sum([f(x) for f, x in zip(row, case)], Sequence.zero(P.world.prime)) for row in m.rows()
                ]
                digits = [digit_at(row, case, place) for row, place in m.spots()]
                self.assertEqual(m.worked(P(case), shown, digits), Q(case))
                count += bool(m.counts != (0, 0) and any(Q(case)))
        self.assertGreater(count, 8)

    def test_each_choice_goes_with_each_possible_view(self):
        for chance, P, Q in some_pairs(292, 6):
            m = missing(P, Q)
            zeros = [Sequence.zero(P.world.prime) for row in P.rows()]
            view = P(some_case(chance, P))
            shown, digits = choice(chance, m)
            self.assertEqual(m.worked(zeros, shown, digits), Q(m.case(shown, digits)))
            got = m.worked(view, shown, digits)
            nothing = m.worked(view, [x - x for x in shown], [0 for digit in digits])
            self.assertEqual([x - y for x, y in zip(got, nothing)], Q(m.case(shown, digits)))
            if sum(m.counts):
                self.assertNotEqual(m.worked(view, *other_choice(chance, m, shown, digits)), got)

    def test_impossible_views(self):
        count = 0
        for chance, P, Q in all_pairs(293, 6):
            view = changed(chance, P(some_case(chance, P)))
            if broken(P, view) is not None:
                m = missing(P, Q)
                with self.assertRaises(Impossible):
                    m.worked(view, *choice(chance, m))
                count += 1
        self.assertGreater(count, 8)

    def test_order_of_errors(self):
        P, Q = Watcher(FREE, [[STEP * STEP, NONE], [STEP, NONE]]), FREE.everything()
        m = missing(P, Q)
        self.assertEqual(m.counts, (1, 1))
        good = [STEP(STEP(X)), STEP(X)]
        self.assertEqual(m.worked(good, [Y], [1])[1:], m.case([Y], [1])[1:])
        for view in (None, [], [X], [X, X, X], [X, None], (Sequence.zero(2), X), "ab", X):
            for shown in ([Y], None, []):
                for digits in ([1], None):
                    with self.assertRaises(BadSequences):
                        m.worked(view, shown, digits)
        for view in ([X, X], good):
            for shown in (None, [], [Y, Y], [None]):
                for digits in ([1], None):
                    with self.assertRaises(BadSequences):
                        m.worked(view, shown, digits)
            for digits in (None, [], [3], [True], [1, 1]):
                with self.assertRaises(BadDigits):
                    m.worked(view, [Y], digits)
        with self.assertRaises(Impossible):
            m.worked([X, X], [Y], [1])

    def test_far_places(self):
        for prime in PRIMES:
            f = Filter(prime, [(0, 1), (1, 1), (4, -1)])
            world = World(prime, 1)
            m = missing(Watcher(world, [[f]]), world.everything())
            (x,) = m.case([], [1, 0, 0, 0])
            self.assertFalse(f(x))
            for place in (FAR, -FAR):
                self.assertEqual(sum(c * x[place + o] for o, c in f.terms()) % prime, 0)


class Worlds(unittest.TestCase):
    def test_unlike_worlds(self):
        P = RULED.everything()
        for other in OTHERS:
            for ask in (lacks, missing):
                for pair in ((P, other.nothing()), (other.everything(), P)):
                    with self.assertRaises(UnlikeWorlds):
                        ask(*pair)

    def test_equal_worlds_told_otherwise(self):
        for one, other in ((RULED, SAME), (SAME, RULED)):
            P, Q = Watcher(one, [[NONE, ONE]]), Watcher(other, [[ONE, NONE]])
            m = missing(P, Q)
            self.assertEqual((lacks(P, Q), m.counts, lacks(Q, P)), ((0, 1), (0, 1), (0, 0)))
            (row, place), = m.spots()
            case = m.case([], [2])
            self.assertEqual((digit_at(row, case, place), P(case), one.is_case(case)), (2, [ZERO], True))
            self.assertEqual(m.worked([-STEP(X)], [], [digit_at(row, [X, -STEP(X)], place)]), [X])


if __name__ == "__main__":
    unittest.main()
