"""Point 13: sums, multiples, moves and filters of sequences."""

import unittest

from seenrows.errors import UnlikePrimes
from seenrows.filters import Filter
from seenrows.sequences import Sequence
from tests.plain import PRIMES, chance_of, slow_filtered, some_filter, some_sequence

NUMBERS = (0, 1, 2, 3, 4, 5, 6, 7, 8, 35, 10 ** 40, -1, -2, -7, -36, -(10 ** 40))
FIRST, COUNT = -70, 150
PLACE = 10 ** 31
FAR_PLACES = (PLACE, -PLACE, PLACE - 12345, 54321 - PLACE)


class DigitByDigit(unittest.TestCase):
    def test_small_ones(self):
        x, y = Sequence.repeated(5, [1, 2]), Sequence.repeated(5, [3, 4, 0])
        self.assertEqual((x + y).digits(0, 6), [4, 1, 1, 0, 0, 2])
        self.assertEqual((x - y).digits(0, 6), [3, 3, 1, 4, 2, 2])
        self.assertEqual((-x).digits(0, 3), [4, 3, 4])
        self.assertEqual((3 * x).digits(0, 2), [3, 1])
        self.assertEqual(x.moved(1).digits(0, 3), [2, 1, 2])
        self.assertEqual(Filter(5, [(0, 1), (1, 1)])(x), Sequence.repeated(5, [3]))
        self.assertEqual((x + y).rule(), Filter(5, [(0, 4), (1, 4), (3, 1), (4, 1)]))

    def test_against_the_plain_way(self):
        chance = chance_of(111)
        for prime in PRIMES:
            for k in range(40):
                x, y = some_sequence(chance, prime), some_sequence(chance, prime)
                a, b = x.digits(FIRST, COUNT), y.digits(FIRST, COUNT)
                self.assertEqual((x + y).digits(FIRST, COUNT), [(c + d) % prime for c, d in zip(a, b)])
                self.assertEqual((x - y).digits(FIRST, COUNT), [(c - d) % prime for c, d in zip(a, b)])
                self.assertEqual((-x).digits(FIRST, COUNT), [-c % prime for c in a])
                self.assertEqual({x.prime, (x + y).prime, (x - y).prime, (-x).prime, (2 * x).prime}, {prime})
                self.assertEqual((x.digits(FIRST, COUNT), y.digits(FIRST, COUNT)), (a, b))

    def test_far_places(self):
        chance = chance_of(112)
        for prime in PRIMES:
            for k in range(8):
                x, y = some_sequence(chance, prime), some_sequence(chance, prime)
                f = some_filter(chance, prime)
                for at in FAR_PLACES:
                    self.assertEqual((x + y)[at], (x[at] + y[at]) % prime)
                    self.assertEqual((x - y)[at], (x[at] - y[at]) % prime)
                    self.assertEqual((-x)[at], -x[at] % prime)
                    self.assertEqual(f(x)[at], slow_filtered(f, lambda place: x[place], at))
                    self.assertEqual(x.moved(at).digits(-5, 10), x.digits(at - 5, 10))

    def test_what_cancels(self):
        chance = chance_of(113)
        for prime in PRIMES:
            for k in range(20):
                x, y = some_sequence(chance, prime), some_sequence(chance, prime)
                zero = Sequence.zero(prime)
                self.assertEqual((x - x, x + -x, x + zero, zero + x, x - zero), (zero, zero, x, x, x))
                self.assertEqual((x - x).rule(), Filter(prime, [(0, 1)]))
                self.assertEqual(x + y - y, x)
                self.assertEqual((x + y - y).rule(), x.rule())
                self.assertEqual((x + y, zero - x, -(-x)), (y + x, -x, x))

    def test_many_summands(self):
        chance = chance_of(114)
        for prime in (2, 7):
            parts = [some_sequence(chance, prime) for k in range(12)]
            total = Sequence.zero(prime)
            for x in parts:
                total = total + x
            for at in (0, -40, PLACE):
                plain = [sum(column) % prime for column in zip(*[x.digits(at, 30) for x in parts])]
                self.assertEqual(total.digits(at, 30), plain)
            for x in parts:
                total = total - x
            self.assertEqual(total, Sequence.zero(prime))

    def test_numbers_either_way_about(self):
        chance = chance_of(115)
        for prime in PRIMES:
            x = some_sequence(chance, prime)
            for number in NUMBERS:
                wanted = [number * digit % prime for digit in x.digits(FIRST, COUNT)]
                self.assertEqual((number * x).digits(FIRST, COUNT), wanted)
                self.assertEqual((x * number).digits(FIRST, COUNT), wanted)
                self.assertEqual(number * x, x * number)
                if number % prime == 0:
                    self.assertEqual(number * x, Sequence.zero(prime))

    def test_no_operator_changes_an_object(self):
        x, y = Sequence.repeated(5, [1, 2]), Sequence.repeated(5, [3, 4, 0])
        z = x
        z += y
        self.assertEqual((z, x), (x + y, Sequence.repeated(5, [1, 2])))
        z = x
        z -= y
        self.assertEqual((z, x), (x - y, Sequence.repeated(5, [1, 2])))
        z = x
        z *= 3
        self.assertEqual((z, x, y), (3 * x, Sequence.repeated(5, [1, 2]), Sequence.repeated(5, [3, 4, 0])))

    def test_unlike_primes(self):
        for one in PRIMES:
            for two in PRIMES:
                if one != two:
                    for x in (Sequence.zero(one), Sequence.repeated(one, [1, 0])):
                        for y in (Sequence.zero(two), Sequence.repeated(two, [1])):
                            for call in (lambda: x + y, lambda: x - y, lambda: y - x):
                                with self.assertRaises(UnlikePrimes):
                                    call()


class Moves(unittest.TestCase):
    def test_moved(self):
        chance = chance_of(116)
        for prime in PRIMES:
            for k in range(15):
                x = some_sequence(chance, prime)
                for by in (0, 1, -1, 7, -33, 1500, PLACE, -PLACE):
                    y = x.moved(by)
                    self.assertEqual(y.digits(FIRST, COUNT), x.digits(FIRST + by, COUNT))
                    self.assertEqual((y.rule(), y.moved(-by)), (x.rule(), x))
                    if abs(by) < 25:
                        self.assertEqual(y, Filter.shift(prime, by)(x))


class Filters(unittest.TestCase):
    def test_against_the_plain_way(self):
        chance = chance_of(117)
        for prime in PRIMES:
            for k in range(40):
                x, f = some_sequence(chance, prime), some_filter(chance, prime)
                digits = dict(zip(range(-110, 110), x.digits(-110, 220)))
                y = f(x)
                self.assertEqual(y.prime, prime)
                self.assertEqual(y.digits(-80, 160), [slow_filtered(f, digits.get, i) for i in range(-80, 80)])

    def test_filters_of_filters(self):
        chance = chance_of(118)
        for prime in PRIMES:
            for k in range(20):
                x, y = some_sequence(chance, prime), some_sequence(chance, prime)
                f, g = some_filter(chance, prime), some_filter(chance, prime)
                self.assertEqual((f * g)(x), f(g(x)))
                self.assertEqual((f + g)(x), f(x) + g(x))
                self.assertEqual(f(x + y), f(x) + f(y))
                self.assertEqual((f * x.rule())(x), Sequence.zero(prime))
                self.assertEqual(Filter(prime)(x), Sequence.zero(prime))
                self.assertEqual(Filter(prime, [(0, 1)])(x), x)
                self.assertEqual((f % x.rule())(x), f(x))

    def test_by_name(self):
        x, f = Sequence.repeated(3, [0, 1, 1]), Filter(3, [(1, 2), (0, 1)])
        self.assertEqual(f(x=x), f(x))

    def test_large_filters_that_were_returned(self):
        chance = chance_of(119)
        for prime in PRIMES:
            x, f, g = some_sequence(chance, prime), some_filter(chance, prime, 3), some_filter(chance, prime, 3)
            self.assertEqual((f ** 12)(x), (f ** 6)((f ** 6)(x)))
            self.assertEqual((f ** 12 * g ** 9)(x), (g ** 9)((f ** 12)(x)))

    def test_unlike_primes(self):
        for one in PRIMES:
            for two in PRIMES:
                if one != two:
                    for f in (Filter(one), Filter.shift(one, 0), Filter(one, [(-3, 1), (24, 1)])):
                        for x in (Sequence.zero(two), Sequence.repeated(two, [1, 0])):
                            with self.assertRaises(UnlikePrimes):
                                f(x)


if __name__ == "__main__":
    unittest.main()
