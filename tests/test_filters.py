"""Points 3 to 8: making filters and asking them."""

import unittest

from seenrows.errors import BadPrime, BadTerm
from seenrows.filters import Filter
from tests.plain import FAR, NO_LISTS, NO_PRIMES, NO_TERMS, PRIMES, added, chance_of, some_terms


class Making(unittest.TestCase):
    def test_without_terms(self):
        for f in (Filter(5), Filter(5, ()), Filter(5, []), Filter(prime=5), Filter(prime=5, terms=[])):
            self.assertEqual(f.terms(), [])
            self.assertEqual(f.prime, 5)
            self.assertIs(bool(f), False)
            self.assertIsNone(f.low())
            self.assertIsNone(f.high())
            self.assertIsNone(f.span())
            self.assertEqual(f[0], 0)
            self.assertEqual(f[-FAR], 0)

    def test_one_term(self):
        f = Filter(5, [(-3, 2)])
        self.assertEqual((f.prime, f.terms(), f.low(), f.high(), f.span()), (5, [(-3, 2)], -3, -3, 0))
        self.assertEqual([f[k] for k in range(-5, 3)], [0, 0, 2, 0, 0, 0, 0, 0])
        self.assertIs(bool(f), True)

    def test_terms_are_in_ascending_order(self):
        f = Filter(7, [(3, 1), (-2, 6), (0, 2), (24, 5), (-24, 4), (10, 3)])
        self.assertEqual(f.terms(), [(-24, 4), (-2, 6), (0, 2), (3, 1), (10, 3), (24, 5)])
        self.assertEqual((f.low(), f.high(), f.span()), (-24, 24, 48))

    def test_offsets_are_ordered_as_numbers(self):
        f = Filter(2, [(10, 1), (9, 1), (-9, 1), (-10, 1), (100, 1)])
        self.assertEqual([offset for offset, digit in f.terms()], [-10, -9, 9, 10, 100])

    def test_same_offset_twice(self):
        self.assertEqual(Filter(7, [(1, 3), (1, 5)]).terms(), [(1, 1)])
        self.assertEqual(Filter(7, [(1, 3), (0, 1), (1, 4)]).terms(), [(0, 1)])
        self.assertEqual(Filter(2, [(1, 1), (1, 1)]).terms(), [])
        self.assertEqual(Filter(2, [(1, 1), (1, 1), (1, 1)]).terms(), [(1, 1)])
        self.assertEqual(Filter(3, [(FAR, 1), (FAR, 1), (-FAR, 1)]).terms(), [(-FAR, 1), (FAR, 2)])

    def test_coefficients_of_any_size_and_sign(self):
        self.assertEqual(Filter(5, [(0, -1), (1, 5), (2, 6), (3, -10)]).terms(), [(0, 4), (2, 1)])
        self.assertEqual(Filter(7, [(0, 10 ** 40)]).terms(), [(0, 10 ** 40 % 7)])
        self.assertEqual(Filter(3, [(0, -(10 ** 40))]).terms(), [(0, 2)])
        self.assertEqual(Filter(2, [(0, 0), (1, 2), (2, -4)]).terms(), [])
        self.assertEqual(Filter(5, [(0, 10 ** 40), (0, -(10 ** 40))]).terms(), [])

    def test_terms_that_add_up_to_nothing_leave_no_trace(self):
        f = Filter(5, [(-9, 2), (0, 1), (9, 4), (-9, 3), (9, 1)])
        self.assertEqual((f.low(), f.high(), f.span(), f[-9], f[9]), (0, 0, 0, 0, 0))
        g = Filter(5, [(2, 2), (2, 3)])
        self.assertEqual((g.low(), g.high(), g.span(), bool(g)), (None, None, None, False))

    def test_lists_and_tuples(self):
        made = Filter(3, [(0, 1), (2, 2)])
        for terms in (((0, 1), (2, 2)), [[0, 1], [2, 2]], ([0, 1], (2, 2)), [(2, 2), [0, 1]]):
            self.assertEqual(Filter(3, terms), made)
            self.assertEqual(Filter(3, terms).terms(), [(0, 1), (2, 2)])

    def test_far_offsets(self):
        f = Filter(7, [(FAR, 3), (-FAR, 4), (0, 1)])
        self.assertEqual(f.terms(), [(-FAR, 4), (0, 1), (FAR, 3)])
        self.assertEqual((f.low(), f.high(), f.span()), (-FAR, FAR, 2 * FAR))
        self.assertEqual((f[FAR], f[-FAR], f[0], f[FAR - 1], f[1 - FAR], f[FAR + 1]), (3, 4, 1, 0, 0, 0))

    def test_nothing_is_refused_for_being_larger(self):
        f = Filter(3, [(k, 1) for k in range(-2000, 2000)])
        self.assertEqual((len(f.terms()), f.low(), f.high()), (4000, -2000, 1999))
        huge = 10 ** 300
        self.assertEqual(Filter(2, [(huge, 1), (-huge, 1)]).span(), 2 * huge)

    def test_against_the_plain_way(self):
        chance = chance_of(7)
        for prime in PRIMES:
            for reach in (2, 24, FAR):
                for k in range(60):
                    terms = some_terms(chance, reach=reach)
                    f, sums = Filter(prime, terms), added(prime, terms)
                    self.assertEqual(f.terms(), sorted(sums.items()))
                    self.assertEqual([f[offset] for offset, digit in terms], [sums.get(t[0], 0) for t in terms])
                    self.assertEqual(f.low(), min(sums) if sums else None)
                    self.assertEqual(f.high(), max(sums) if sums else None)
                    self.assertEqual(f.span(), max(sums) - min(sums) if sums else None)
                    self.assertIs(bool(f), bool(sums))

    def test_shift(self):
        for prime in PRIMES:
            for offset in (0, 1, -1, 24, -24, FAR, -FAR):
                self.assertEqual(Filter.shift(prime, offset), Filter(prime, [(offset, 1)]))
                self.assertEqual(Filter.shift(prime=prime, offset=offset).terms(), [(offset, 1)])

    def test_kinds_of_what_is_returned(self):
        f = Filter(5, [[1, 6], [0, 2]])
        self.assertIs(type(f.terms()), list)
        for pair in f.terms():
            self.assertIs(type(pair), tuple)
            self.assertEqual([type(number) for number in pair], [int, int])
        self.assertIs(type(bool(f)), bool)
        self.assertIs(f == f, True)
        self.assertIs(f != f, False)

    def test_no_list_of_places(self):
        with self.assertRaises(TypeError):
            list(Filter(2, [(0, 1)]))


class Copying(unittest.TestCase):
    def test_what_is_passed_may_be_changed_afterwards(self):
        terms = [[0, 1], [1, 2]]
        f = Filter(3, terms)
        terms[0][1] = 2
        terms.append([5, 1])
        self.assertEqual(f.terms(), [(0, 1), (1, 2)])
        self.assertEqual((f[0], f[5], f.high()), (1, 0, 1))

    def test_what_is_passed_is_not_changed(self):
        terms = [[1, 5], [0, 7], [1, -5]]
        Filter(3, terms)
        self.assertEqual(terms, [[1, 5], [0, 7], [1, -5]])

    def test_what_is_returned_may_be_changed(self):
        f = Filter(3, [(0, 1), (1, 2)])
        got = f.terms()
        got.append((7, 1))
        got[0] = (0, 2)
        self.assertEqual(f.terms(), [(0, 1), (1, 2)])
        self.assertEqual((f[0], f[7], f.high()), (1, 0, 1))
        self.assertEqual(f, Filter(3, [(0, 1), (1, 2)]))


class Equality(unittest.TestCase):
    def test_same_terms_told_otherwise(self):
        f = Filter(5, [(0, 1), (3, 4)])
        for terms in ([(3, 4), (0, 1)], [(3, -1), (0, 6)], [(3, 2), (0, 1), (3, 2)], [(0, 1), (3, 4), (9, 5)]):
            self.assertIs(f == Filter(5, terms), True)
            self.assertIs(f != Filter(5, terms), False)

    def test_other_terms(self):
        f = Filter(5, [(0, 1), (3, 4)])
        for terms in ([], [(0, 1)], [(3, 4)], [(0, 1), (3, 3)], [(0, 1), (4, 4)], [(0, 1), (3, 4), (4, 1)]):
            self.assertIs(f == Filter(5, terms), False)
            self.assertIs(f != Filter(5, terms), True)

    def test_another_prime(self):
        for terms in ([], [(0, 1)], [(0, 1), (FAR, 1)]):
            self.assertIs(Filter(2, terms) == Filter(3, terms), False)
            self.assertIs(Filter(2, terms) != Filter(3, terms), True)
            self.assertIs(Filter(5, terms) == Filter(5, terms), True)

    def test_no_filters(self):
        f, zero = Filter(5, [(0, 1)]), Filter(5)
        for thing in (None, True, False, 0, 1, 5, "", "1@0", [], (), [(0, 1)], ((0, 1),), {}, {0: 1}, f.terms(), [f]):
            for g in (f, zero):
                self.assertIs(g == thing, False)
                self.assertIs(thing == g, False)
                self.assertIs(g != thing, True)
                self.assertIs(thing != g, True)

    def test_far_terms(self):
        self.assertEqual(Filter(2, [(FAR, 1)]), Filter(2, [(FAR, 3)]))
        self.assertNotEqual(Filter(2, [(FAR, 1)]), Filter(2, [(FAR - 1, 1)]))


class Wrong(unittest.TestCase):
    def test_no_primes(self):
        for thing in NO_PRIMES:
            for call in (
                lambda: Filter(thing), lambda: Filter(thing, [(0, 1)]), lambda: Filter(prime=thing, terms=()),
                lambda: Filter.shift(thing, 0), lambda: Filter.shift(prime=thing, offset=-1),
            ):
                with self.subTest(thing=thing), self.assertRaises(BadPrime) as caught:
                    call()
                self.assertIs(caught.exception.prime, thing)

    def test_bad_prime_comes_ahead_of_bad_term(self):
        for thing in NO_PRIMES:
            for terms in (None, 5, [None], [(0, 1), (0,)]):
                with self.assertRaises(BadPrime):
                    Filter(thing, terms)

    def test_no_lists(self):
        for thing in NO_LISTS:
            for prime in PRIMES:
                with self.subTest(thing=thing), self.assertRaises(BadTerm) as caught:
                    Filter(prime, thing)
                self.assertIs(type(caught.exception.index), int)
                self.assertEqual(caught.exception.index, 0)

    def test_no_terms_at_each_place(self):
        good = [(0, 1), [1, 2], (0, -1), [7, 7]]
        for thing in NO_TERMS:
            for at in range(len(good) + 1):
                for terms in (good[:at] + [thing] + good[at:], tuple(good[:at] + [thing] + good[at:])):
                    with self.subTest(thing=thing, at=at), self.assertRaises(BadTerm) as caught:
                        Filter(3, terms)
                    self.assertIs(type(caught.exception.index), int)
                    self.assertEqual(caught.exception.index, at)

    def test_the_first_of_several_is_told(self):
        with self.assertRaises(BadTerm) as caught:
            Filter(3, [(0, 1), (1, 1), None, (2, 2), "ab"])
        self.assertEqual(caught.exception.index, 2)
        with self.assertRaises(BadTerm) as caught:
            Filter(prime=3, terms=[(0, 1), (1, True), None])
        self.assertEqual(caught.exception.index, 1)


if __name__ == "__main__":
    unittest.main()
