"""Point 9, but for division: sums, differences, products and powers of filters."""

import unittest

from seenrows.errors import UnlikePrimes
from seenrows.filters import Filter
from tests.plain import FAR, PRIMES, added, chance_of, multiplied, some_filter, told

NUMBERS = (0, 1, 2, 3, 4, 5, 6, 7, 8, 35, 36, 10 ** 40, -1, -2, -3, -7, -35, -36, -(10 ** 40))


class Sums(unittest.TestCase):
    def test_small_ones(self):
        f, g = Filter(5, [(0, 2), (1, 4)]), Filter(5, [(1, 1), (2, 3)])
        self.assertEqual((f + g).terms(), [(0, 2), (2, 3)])
        self.assertEqual((f - g).terms(), [(0, 2), (1, 3), (2, 2)])
        self.assertEqual((g - f).terms(), [(0, 3), (1, 2), (2, 3)])
        self.assertEqual((-f).terms(), [(0, 3), (1, 1)])
        self.assertEqual((f * g).terms(), [(1, 2), (3, 2)])

    def test_against_the_plain_way(self):
        chance = chance_of(11)
        for prime in PRIMES:
            for reach in (3, 24, FAR):
                for k in range(40):
                    f, g = some_filter(chance, prime, reach=reach), some_filter(chance, prime, reach=reach)
                    minus = [(offset, -digit) for offset, digit in g.terms()]
                    self.assertEqual(told(f + g), added(prime, f.terms() + g.terms()))
                    self.assertEqual(told(f - g), added(prime, f.terms() + minus))
                    self.assertEqual(told(-g), added(prime, minus))
                    self.assertEqual(told(f * g), multiplied(prime, told(f), told(g)))
                    self.assertEqual({f.prime, (f + g).prime, (f - g).prime, (-f).prime, (f * g).prime}, {prime})

    def test_with_itself(self):
        chance = chance_of(12)
        for prime in PRIMES:
            for reach in (24, FAR):
                for k in range(20):
                    f = some_filter(chance, prime, reach=reach)
                    before = f.terms()
                    self.assertEqual(f - f, Filter(prime))
                    self.assertEqual(f + f, 2 * f)
                    self.assertEqual(told(f * f), multiplied(prime, told(f), told(f)))
                    self.assertEqual(f + -f, Filter(prime))
                    self.assertEqual(f.terms(), before)

    def test_without_terms(self):
        f, zero = Filter(3, [(-2, 1), (5, 2)]), Filter(3)
        self.assertEqual((f + zero, zero + f, f - zero, zero - f), (f, f, f, -f))
        self.assertEqual((f * zero, zero * f, zero * zero, -zero), (zero, zero, zero, zero))
        self.assertEqual((zero + zero, zero - zero, 5 * zero, zero * 5), (zero, zero, zero, zero))

    def test_numbers_either_way_about(self):
        chance = chance_of(13)
        for prime in PRIMES:
            for reach in (24, FAR):
                for number in NUMBERS:
                    f = some_filter(chance, prime, reach=reach)
                    wanted = added(prime, [(offset, number * digit) for offset, digit in f.terms()])
                    self.assertEqual(told(number * f), wanted)
                    self.assertEqual(told(f * number), wanted)

    def test_a_multiple_of_the_prime_leaves_no_terms(self):
        f = Filter(7, [(0, 1), (3, 6)])
        for number in (0, 7, -7, 7 * 10 ** 40):
            self.assertEqual((number * f).terms(), [])
            self.assertEqual((f * number).high(), None)

    def test_shifts_add_offsets(self):
        f = Filter(5, [(-1, 2), (4, 3)])
        self.assertEqual((f * Filter.shift(5, 10)).terms(), [(9, 2), (14, 3)])
        self.assertEqual(Filter.shift(5, -FAR) * Filter.shift(5, FAR), Filter.shift(5, 0))

    def test_no_operator_changes_an_object(self):
        f, g = Filter(5, [(0, 2), (1, 4)]), Filter(5, [(1, 1), (2, 3)])
        for other in (g, f):
            h = f
            h += other
            self.assertEqual((h, f.terms()), (f + other, [(0, 2), (1, 4)]))
            h = f
            h -= other
            self.assertEqual((h, f.terms()), (f - other, [(0, 2), (1, 4)]))
            h = f
            h *= other
            self.assertEqual((h, f.terms()), (f * other, [(0, 2), (1, 4)]))
            self.assertEqual(g.terms(), [(1, 1), (2, 3)])
        h = f
        h *= 3
        h **= 2
        h %= g
        self.assertEqual((h, f.terms()), ((3 * f) ** 2 % g, [(0, 2), (1, 4)]))
        h = f
        h //= g
        self.assertEqual((h, f.terms()), (f // g, [(0, 2), (1, 4)]))
        self.assertEqual((-f, f.terms(), g.terms()), (Filter(5, [(0, 3), (1, 1)]), [(0, 2), (1, 4)], [(1, 1), (2, 3)]))

    def test_unlike_primes(self):
        for one in PRIMES:
            for two in PRIMES:
                if one == two:
                    continue
                for f in (Filter(one), Filter.shift(one, 3), Filter(one, [(0, 1), (FAR, 1)])):
                    for g in (Filter(two), Filter.shift(two, 3), Filter(two, [(0, 1), (-FAR, 1)])):
                        for call in (lambda: f + g, lambda: f - g, lambda: f * g):
                            with self.assertRaises(UnlikePrimes):
                                call()

    def test_many_terms(self):
        f = Filter(7, [(k, k * k + 1) for k in range(-150, 150)])
        self.assertEqual(told(f * f), multiplied(7, told(f), told(f)))
        self.assertEqual(f + f - f, f)


    def test_thousands_of_terms(self):
        for prime in PRIMES:
            f = Filter(prime, [(k, -1) for k in range(-1000, 1600)])
            for many in (1, 2, 1023, 1024, 1025, 2100):
                g = Filter(prime, [(k, -1) for k in range(many)])
                # Each coefficient counts the pairs of terms whose offsets have this sum.
                wanted = [(k, min(k + 1001, many, 1600 + many - 1 - k)) for k in range(-1000, 1600 + many - 1)]
                self.assertEqual(told(f * g), added(prime, wanted))
                self.assertEqual(g * f, f * g)


class Powers(unittest.TestCase):
    def test_power_0_has_one_term(self):
        for prime in PRIMES:
            for f in (Filter(prime), Filter.shift(prime, 5), Filter(prime, [(0, 1), (FAR, 1)])):
                self.assertEqual((f ** 0).terms(), [(0, 1)])
                self.assertEqual((f ** 0).prime, prime)

    def test_powers_of_a_filter_without_terms(self):
        for n in (1, 2, 3, 12):
            self.assertEqual(Filter(5) ** n, Filter(5))

    def test_small_ones(self):
        self.assertEqual((Filter(2, [(0, 1), (1, 1)]) ** 2).terms(), [(0, 1), (2, 1)])
        self.assertEqual((Filter(7, [(0, 1), (1, 1)]) ** 3).terms(), [(0, 1), (1, 3), (2, 3), (3, 1)])
        self.assertEqual((Filter(3, [(-1, 2)]) ** 3).terms(), [(-3, 2)])
        self.assertEqual((Filter(5, [(4, 2)]) ** 12).terms(), [(48, 1)])

    def test_as_products(self):
        chance = chance_of(14)
        for prime in PRIMES:
            for reach in (24, FAR):
                for most, last in ((3, 12), (8, 3)):
                    f = some_filter(chance, prime, most=most, reach=reach)
                    before, product = f.terms(), {0: 1}
                    for n in range(last + 1):
                        self.assertEqual(told(f ** n), product, (prime, n))
                        product = multiplied(prime, product, told(f))
                    self.assertEqual(f.terms(), before)

    def test_far_terms(self):
        f = Filter(7, [(-FAR, 1), (FAR - 1, 3), (FAR, 2)])
        g = f ** 12
        self.assertEqual((g.low(), g.high()), (-12 * FAR, 12 * FAR))
        self.assertEqual(g, (f ** 5) * (f ** 7))

    def test_sixteen_far_terms(self):
        chance = chance_of(15)
        f = Filter(7, [(chance.randint(-FAR, FAR), chance.randint(1, 6)) for k in range(16)])
        self.assertEqual(told(f ** 3), multiplied(7, told(f), multiplied(7, told(f), told(f))))

    def test_larger_powers(self):
        f = Filter(3, [(0, 1), (1, 1)])
        self.assertEqual((f ** 3 ** 20).terms(), [(0, 1), (3 ** 20, 1)])
        self.assertEqual(f ** 40 * f ** 41, f ** 81)


if __name__ == "__main__":
    unittest.main()
