"""Points 26 and 27: cases of views, broken views, and what is worked out from a view."""

import unittest

from seenrows.errors import BadSequences, Impossible, NotTold, UnlikeWorlds
from seenrows.filters import Filter
from seenrows.sequences import Sequence
from seenrows.views import broken, case_of, worked
from seenrows.worlds import Watcher, World, own_table
from tests.pairs import all_pairs, row_digits, some_case, some_pairs, special_pairs, sum_of
from tests.plain import NO_LISTS, PRIMES, chance_of, some_sequence
from tests.test_combinations import wide_table
from tests.test_telling import FREE, NONE, ONE, OTHERS, PLUS, RULED, SAME, STEP

X, Y = Sequence.repeated(3, [0, 1, 1, 2]), Sequence.repeated(3, [1, 2])
NO_VIEWS = tuple(NO_LISTS) + (
    [X], (X,), [X, X, X], [X, None], [None, X], [X, 0], [X, [X]], [[X, X]], [X, Sequence.zero(2)], (X, ONE),
    [Sequence.zero(5), Sequence.zero(5)], {0: X, 1: X}, X, [X, "0"], [X, True], FREE, FREE.everything(),
)


def some_view(chance, watcher, span=3):
    return [some_sequence(chance, watcher.world.prime, span) for row in watcher.rows()]


def changed(chance, view, span=2):
    """The view with one of its sequences exchanged."""
    other = list(view)
    if other:
        other[chance.randrange(len(other))] = some_sequence(chance, view[0].prime, span)
    return other


class Possible(unittest.TestCase):
    def test_small_ones(self):
        P = Watcher(FREE, [[ONE, NONE], [PLUS, NONE]])
        case = case_of(P, [X, PLUS(X)])
        self.assertEqual((type(case), len(case), case[0]), (list, 2, X))
        self.assertIsNone(case_of(P, [X, X]))
        self.assertIsNone(broken(P, [X, PLUS(X)]))
        filters = broken(P, [X, X])
        self.assertEqual((type(filters), len(filters)), (list, 2))
        self.assertEqual(filters[0] + PLUS * filters[1], NONE)
        self.assertTrue(filters[0](X) + filters[1](X))
        self.assertEqual(case_of(watcher=P, view=(X, PLUS(X))), case)
        self.assertEqual(broken(watcher=P, view=(X, X)), filters)

    def test_rules_count(self):
        P = RULED.everything()
        self.assertEqual(case_of(P, [X, -STEP(X)]), [X, -STEP(X)])
        self.assertIsNone(case_of(P, [X, STEP(X)]))
        self.assertEqual(case_of(FREE.everything(), [X, STEP(X)]), [X, STEP(X)])
        self.assertIsNone(broken(FREE.everything(), [X, STEP(X)]))
        filters = broken(P, (X, STEP(X)))
        self.assertIn(filters, RULED.rules())

    def check(self, P, view):
        """Tell whether the view is possible, after a look at what case_of and broken answer."""
        case, filters = case_of(P, view), broken(P, view)
        self.assertIs(case is None, filters is not None)
        self.assertEqual((case_of(P, tuple(view)), broken(P, tuple(view))), (case, filters))
        prime, width = P.world.prime, P.world.width
        if case is not None:
            self.assertIs(P.world.is_case(case), True)
            self.assertEqual(P(case), view)
            for row, x in zip(P.rows(), view):
                self.assertEqual(row_digits(row, case, -20, 40), x.digits(-20, 60))
        else:
            self.assertEqual((type(filters), len(filters)), (list, len(P)))
            self.assertIn(sum_of(prime, width, filters, P.rows()), P.world.rules())
            self.assertTrue(any(row_digits(filters, view, -40, 60)))
        return case is not None

    def test_just_one_is_none(self):
        seen = {True: 0, False: 0}
        for chance, P, Q in all_pairs(261, 8):
            view = P(some_case(chance, P))
            self.assertTrue(self.check(P, view))
            for other in (changed(chance, view), some_view(chance, P), [Sequence.zero(P.world.prime) for x in view]):
                seen[self.check(P, other)] += 1
        self.assertGreater(min(seen.values()), 25)

    def test_views_against_all_checks(self):
        for chance, P, Q in some_pairs(262, 8):
            if len(P):
                table = P + Watcher(P.world, P.world.rules().rows())
                zeros = [Sequence.zero(P.world.prime)] * len(P.world.rules())
                checks = own_table(table).checks()
                view = changed(chance, P(some_case(chance, P)))
                self.assertIs(case_of(P, view) is not None, not any(checks(view + zeros)))

    def test_without_rows(self):
        for world in (FREE, RULED, World(3, 2, [[ONE, NONE], [NONE, ONE]])):
            N = world.nothing()
            for view in ([], ()):
                self.assertIs(world.is_case(case_of(N, view)), True)
                self.assertIsNone(broken(N, view))

    def test_silent_rows(self):
        zero = Sequence.zero(3)
        P = Watcher(RULED, [[STEP, ONE], [NONE, NONE]])
        self.assertIs(RULED.is_case(case_of(P, [zero, zero])), True)
        for view in ([X, zero], [zero, X], [X, X]):
            self.assertFalse(self.check(P, view))

    def test_asked_again_and_not_changed(self):
        chance = chance_of(263)
        for prime in PRIMES:
            P = Watcher(World(prime, 3), wide_table(chance, prime, 2, 3, 3).rows())
            view = [some_sequence(chance, prime) for row in P.rows()]
            before = list(view)
            case = case_of(P, view)
            self.assertEqual(case_of(Watcher(P.world, P.rows()), view), case)
            self.assertEqual(view, before)
            case.pop()
            self.assertEqual(len(case_of(P, view)), 3)

    def test_wide_rows(self):
        chance = chance_of(264)
        for prime in (2, 5):
            world = World(prime, 3, wide_table(chance, prime, 1, 3).rows())
            for count in (2, 4):
                P = Watcher(world, wide_table(chance, prime, count, 3).rows())
                self.check(P, P(some_case(chance, P, 8)))
                self.check(P, some_view(chance, P, 8))

    def test_no_views(self):
        for world in (FREE, RULED):
            for thing in NO_VIEWS + ([], ()):
                for ask in (case_of, broken):
                    with self.subTest(thing=thing), self.assertRaises(BadSequences):
                        ask(world.everything(), thing)
            for thing in NO_VIEWS:
                with self.subTest(thing=thing), self.assertRaises(BadSequences):
                    case_of(world.nothing(), thing)


class Worked(unittest.TestCase):
    def test_a_small_one(self):
        P, Q = Watcher(RULED, [[ONE, NONE], [PLUS, NONE]]), Watcher(RULED, [[NONE, ONE], [STEP, NONE]])
        got = worked(P, [X, PLUS(X)], Q)
        self.assertEqual((type(got), got), (list, [-STEP(X), STEP(X)]))
        self.assertEqual(worked(watcher=P, view=(X, PLUS(X)), other=Q), got)
        self.assertEqual(worked(P, [X, PLUS(X)], RULED.nothing()), [])

    def test_views_of_cases(self):
        count = 0
        for chance, P, Q in all_pairs(271, 10):
            case = some_case(chance, P)
            view = P(case)
            if Q <= P:
                self.assertEqual(worked(P, view, Q), Q(case))
                self.assertEqual(worked(P, tuple(view), Q), Q(case_of(P, view)))
                count += any(Q(case))
            else:
                with self.assertRaises(NotTold):
                    worked(P, view, Q)
            self.assertEqual(worked(P, view, P), view)
        self.assertGreater(count, 6)

    def test_impossible_views(self):
        count = 0
        for chance, P, Q in all_pairs(272, 8):
            view = changed(chance, P(some_case(chance, P)))
            if broken(P, view) is not None:
                for other in (P, P.world.nothing()):
                    with self.assertRaises(Impossible):
                        worked(P, view, other)
                with self.assertRaises(Impossible if Q <= P else NotTold):
                    worked(P, view, Q)
                count += 1
        self.assertGreater(count, 12)

    def test_order_of_errors(self):
        P, Q = Watcher(RULED, [[NONE, ONE], [NONE, ONE]]), RULED.everything()
        zero = Sequence.zero(3)
        for other in OTHERS:
            for view in (None, [X], [X, X], [X, Y]):
                with self.assertRaises(UnlikeWorlds):
                    worked(P, view, other.everything())
                with self.assertRaises(UnlikeWorlds):
                    worked(other.everything(), view, P)
        for thing in NO_VIEWS + ([], ()):
            for other in (Q, P, RULED.nothing()):
                with self.subTest(thing=thing), self.assertRaises(BadSequences):
                    worked(P, thing, other)
        for view in ([X, X], [X, Y], [zero, zero]):
            with self.assertRaises(NotTold):
                worked(P, view, Q)
        for other in (P, RULED.nothing()):
            with self.assertRaises(Impossible):
                worked(P, [X, Y], other)
        self.assertEqual(worked(P, [X, X], P), [X, X])

    def test_equal_worlds_told_otherwise(self):
        P, Q = Watcher(SAME, [[ONE, NONE]]), Watcher(RULED, [[NONE, ONE]])
        self.assertEqual(worked(P, [X], Q), [-STEP(X)])
        with self.assertRaises(NotTold):
            worked(Q, [X], P)

    def test_what_nobody_can_know(self):
        for P, Q in special_pairs():
            zeros = [Sequence.zero(3) for row in P.rows()]
            if Q.is_silent():
                self.assertEqual(worked(P, zeros, Q), [Sequence.zero(3) for row in Q.rows()])


if __name__ == "__main__":
    unittest.main()
