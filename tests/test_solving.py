"""Point 14: the sequences that a filter turns into a given one."""

import unittest

from seenrows.errors import BadDigits, UnlikePrimes, ZeroFilter
from seenrows.filters import Filter
from seenrows.sequences import Sequence
from seenrows.solving import solve
from tests.plain import NO_LISTS, PRIMES, chance_of, some_digits, some_divisor, some_sequence

PLACE = 10 ** 31


class Solving(unittest.TestCase):
    def test_a_small_one(self):
        f, y = Filter(3, [(0, 2), (1, 1)]), Sequence.repeated(3, [1, 1, 2])
        x = solve(f, y, [2])
        self.assertEqual(x.digits(0, 7), [2, 0, 1, 0, 1, 2, 1])
        self.assertEqual(f(x), y)
        self.assertEqual(solve(f, y).digits(0, 4), [0, 1, 2, 1])

    def test_what_it_gives(self):
        chance = chance_of(121)
        for prime in PRIMES:
            for reach in (1, 4, 24):
                for k in range(15):
                    f, y = some_divisor(chance, prime, reach=reach), some_sequence(chance, prime)
                    digits = some_digits(chance, prime, f.span())
                    x = solve(f, y, digits)
                    self.assertEqual((x.prime, x.digits(0, f.span()), f(x)), (prime, digits, y))
                    self.assertEqual(solve(f, y, tuple(digits)), x)
                    self.assertEqual(solve(f=f, y=y, digits=digits), x)
                    nought = solve(f, y)
                    self.assertEqual((nought.digits(0, f.span()), f(nought)), ([0] * f.span(), y))
                    self.assertEqual(solve(f, y, None), nought)
                    self.assertEqual(solve(f, y, [0] * f.span()), nought)

    def test_there_is_just_one(self):
        chance = chance_of(122)
        for prime in PRIMES:
            for k in range(20):
                f, x = some_divisor(chance, prime), some_sequence(chance, prime)
                self.assertEqual(solve(f, f(x), x.digits(0, f.span())), x)

    def test_zeros_are_given_by_what_the_filter_rules(self):
        chance = chance_of(123)
        for prime in PRIMES:
            f = some_divisor(chance, prime)
            digits = some_digits(chance, prime, f.span())
            self.assertEqual(solve(f, Sequence.zero(prime), digits), Sequence(f, digits))
            self.assertEqual(solve(f, Sequence.zero(prime)), Sequence.zero(prime))

    def test_filters_of_one_term(self):
        y = Sequence.repeated(7, [1, 2, 3, 6])
        for offset in (0, 1, -1, 24, -24):
            for coefficient in range(1, 7):
                f = Filter(7, [(offset, coefficient)])
                for x in (solve(f, y), solve(f, y, []), solve(f, y, ())):
                    self.assertEqual((f(x), x), (y, pow(coefficient, -1, 7) * y.moved(-offset)))

    def test_far_places(self):
        chance = chance_of(124)
        for prime in PRIMES:
            f, y = some_divisor(chance, prime), some_sequence(chance, prime)
            x = solve(f, y, some_digits(chance, prime, f.span()))
            for at in (PLACE, -PLACE):
                self.assertEqual(sum(c * x[at + o] for o, c in f.terms()) % prime, y[at])

    def test_one_after_the_other(self):
        chance = chance_of(125)
        for prime in (2, 5):
            y = some_sequence(chance, prime)
            f, g, h = [some_divisor(chance, prime) for k in range(3)]
            x = solve(h, solve(g, solve(f, y, [1] * f.span()), [1] * g.span()), [1] * h.span())
            self.assertEqual((f * g * h)(x), y)
            self.assertEqual(solve(f * g * h, y, x.digits(0, (f * g * h).span())), x)

    def test_what_is_passed_stays(self):
        f, y, digits = Filter(3, [(0, 2), (2, 1)]), Sequence.repeated(3, [1, 2]), [1, 2]
        x = solve(f, y, digits)
        self.assertEqual(digits, [1, 2])
        digits[0] = 0
        self.assertEqual(x.digits(0, 2), [1, 2])
        self.assertEqual((f, y), (Filter(3, [(0, 2), (2, 1)]), Sequence.repeated(3, [1, 2])))


class Wrong(unittest.TestCase):
    def test_no_terms_to_solve(self):
        for y in (Sequence.zero(3), Sequence.repeated(3, [1, 2]), Sequence.repeated(5, [1])):
            for digits in (None, [], [0], "ab", [7]):
                with self.assertRaises(ZeroFilter):
                    solve(Filter(3), y, digits)

    def test_unlike_primes(self):
        for digits in (None, [], [0], [0, 0], "ab", [7]):
            for y in (Sequence.zero(5), Sequence.repeated(5, [1, 2])):
                with self.assertRaises(UnlikePrimes):
                    solve(Filter(3, [(0, 1), (1, 1)]), y, digits)

    def test_no_digits(self):
        f, y = Filter(3, [(-1, 1), (1, 2)]), Sequence.repeated(3, [1, 2])
        wrong = [thing for thing in NO_LISTS if thing is not None]
        for thing in wrong + [
            [], [0], (1,), [0, 0, 0], [0, 3], [-1, 0], [True, 0], [0, False], [None, 0], ["0", 0], [[0], 0], [[0, 0]], y,
            [Filter(3), 0],
        ]:
            with self.subTest(thing=thing), self.assertRaises(BadDigits):
                solve(f, y, thing)
        for thing in ([0], (None,), 0, "", {}):
            with self.subTest(thing=thing), self.assertRaises(BadDigits):
                solve(Filter(3, [(5, 2)]), y, thing)

    def test_digits_belong_to_the_prime(self):
        for prime in PRIMES:
            f, y = Filter(prime, [(0, 1), (1, 1)]), Sequence.zero(prime)
            self.assertEqual(solve(f, y, [prime - 1])[0], prime - 1)
            with self.assertRaises(BadDigits):
                solve(f, y, [prime])


if __name__ == "__main__":
    unittest.main()
