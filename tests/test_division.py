"""Points 9 and 10: remainders, quotients, normals, and what divides what."""

import unittest

from seenrows.division import divides, gcd, lcm
from seenrows.errors import UnlikePrimes, ZeroFilter
from seenrows.filters import Filter
from tests.plain import FAR, PRIMES, all_filters, chance_of, multiplied, some_divisor, some_filter, told

ONE = [(0, 1)]


def slow_order(g):
    """The least n from 1 on for which g divides the term (n, 1) minus 1, found by trying one after the other."""
    one = Filter(g.prime, ONE) % g
    power, n = Filter.shift(g.prime, 1) % g, 1
    while power != one:
        power, n = (power * Filter.shift(g.prime, 1)) % g, n + 1
    return n


class Remainders(unittest.TestCase):
    def check(self, f, g):
        before = f.terms(), g.terms()
        r, q = f % g, f // g
        self.assertEqual(f, q * g + r)
        self.assertEqual(told(f - r), multiplied(f.prime, told(q), told(g)))
        self.assertTrue(all(0 <= offset < g.span() for offset, digit in r.terms()), (f.terms(), g.terms()))
        self.assertEqual((r.prime, q.prime), (f.prime, f.prime))
        self.assertEqual((f.terms(), g.terms()), before)

    def test_small_ones(self):
        f, g = Filter(5, [(0, 1), (1, 2), (2, 3)]), Filter(5, [(0, 1), (1, 1)])
        self.assertEqual((f // g).terms(), [(0, 4), (1, 3)])
        self.assertEqual((f % g).terms(), [(0, 2)])
        self.assertEqual((Filter.shift(2, -1) % Filter(2, [(0, 1), (1, 1), (2, 1)])).terms(), [(0, 1), (1, 1)])
        self.assertEqual((Filter.shift(2, 2) % Filter(2, [(-5, 1), (-4, 1), (-3, 1)])).terms(), [(0, 1), (1, 1)])
        self.assertEqual((Filter.shift(2, 2) // Filter(2, [(-5, 1), (-4, 1), (-3, 1)])).terms(), [(5, 1)])

    def test_quotient_and_remainder_fit(self):
        chance = chance_of(21)
        for prime in PRIMES:
            for reach in (2, 6, 24):
                for k in range(60):
                    self.check(some_filter(chance, prime), some_divisor(chance, prime, reach=reach))

    def test_every_small_case(self):
        for prime, first, last in ((2, -3, 3), (3, -1, 2)):
            filters = all_filters(prime, first, last)
            for g in filters:
                if g:
                    for f in filters:
                        self.check(f, g)

    def test_the_remainder_is_the_only_one(self):
        for g in (Filter(3, [(-1, 2), (0, 1), (1, 1)]), Filter(2, [(2, 1), (5, 1)])):
            remainders = all_filters(g.prime, 0, g.span() - 1)
            for f in all_filters(g.prime, -2, 2):
                fitting = [r for r in remainders if not (f - r) % g]
                self.assertEqual(fitting, [f % g])

    def test_what_is_its_own_remainder(self):
        g = Filter(7, [(-3, 2), (2, 5)])
        for terms in ([], [(0, 3)], [(4, 1)], [(0, 1), (2, 6), (4, 4)]):
            f = Filter(7, terms)
            self.assertEqual(f % g, f)
            self.assertEqual(f // g, Filter(7))

    def test_divisors_of_one_term(self):
        chance = chance_of(22)
        for prime in PRIMES:
            for offset in (0, 1, -1, 24, -24):
                for digit in range(1, prime):
                    g = Filter(prime, [(offset, digit)])
                    for f in (some_filter(chance, prime), Filter(prime), g):
                        self.check(f, g)
                        self.assertEqual(f % g, Filter(prime))

    def test_divisors_with_offsets_below_0(self):
        chance = chance_of(23)
        for prime in PRIMES:
            for k in range(30):
                g = some_divisor(chance, prime, reach=10) * Filter.shift(prime, -14)
                f = some_filter(chance, prime)
                self.check(f, g)
                self.assertEqual(f % g, f % g.normal())

    def test_without_terms(self):
        g = Filter(3, [(-1, 1), (1, 1)])
        self.assertEqual((Filter(3) % g, Filter(3) // g), (Filter(3), Filter(3)))

    def test_products_leave_nothing(self):
        chance = chance_of(24)
        for prime in PRIMES:
            for k in range(30):
                f, g = some_filter(chance, prime, reach=8), some_divisor(chance, prime)
                self.assertEqual((f * g) % g, Filter(prime))
                self.assertEqual((f * g) // g, f)
                self.assertEqual(g % g, Filter(prime))
                self.assertEqual(g // g, Filter(prime, ONE))

    def test_many_places(self):
        f = Filter(5, [(k, k * k + 3) for k in range(-1500, 1800)])
        self.check(f, Filter(5, [(-2, 3), (0, 1), (7, 2), (20, 4)]))

    def test_no_terms_to_divide_by(self):
        for one in PRIMES:
            for two in PRIMES:
                for f in (Filter(one), Filter.shift(one, 2), Filter.shift(one, FAR)):
                    with self.assertRaises(ZeroFilter):
                        f % Filter(two)
                    with self.assertRaises(ZeroFilter):
                        f // Filter(two)

    def test_unlike_primes(self):
        for f in (Filter(2), Filter.shift(2, 5), Filter.shift(2, FAR)):
            for g in (Filter(3, ONE), Filter(7, [(0, 1), (2, 1)])):
                with self.assertRaises(UnlikePrimes):
                    f % g
                with self.assertRaises(UnlikePrimes):
                    f // g


class FarRemainders(unittest.TestCase):
    def test_against_the_order(self):
        chance = chance_of(31)
        for prime in PRIMES:
            for k in range(12):
                g = some_divisor(chance, prime, most=4, reach=2)
                n = slow_order(g)
                some = chance.randint(-FAR, FAR), chance.randint(1000, 5000), -chance.randint(1000, 5000)
                for far in (FAR, -FAR, FAR - 1) + some:
                    self.assertEqual(Filter.shift(prime, far) % g, Filter.shift(prime, far % n) % g, (far, g.terms()))

    def test_step_by_step_past_the_near_places(self):
        for g in (Filter(2, [(0, 1), (1, 1), (4, 1)]), Filter(7, [(-1, 3), (1, 2), (5, 4)]), Filter(5, [(0, 1), (1, 3)])):
            for way in (1, -1):
                step, power = Filter.shift(g.prime, way), Filter(g.prime, ONE)
                for k in range(1, 1200):
                    power = (power * step) % g
                    if k > 950:
                        self.assertEqual(Filter.shift(g.prime, way * k) % g, power, (way, k))

    def test_sums_and_products_of_remainders(self):
        chance = chance_of(32)
        for prime in PRIMES:
            for k in range(6):
                f, h = some_filter(chance, prime, 16, FAR), some_filter(chance, prime, 16, FAR)
                g = some_divisor(chance, prime)
                r, s = f % g, h % g
                self.assertTrue(all(0 <= offset < g.span() for offset, digit in r.terms()))
                self.assertEqual((f + h) % g, r + s)
                self.assertEqual((f * h) % g, (r * s) % g)
                self.assertEqual((f ** 3) % g, (r ** 3) % g)
                self.assertEqual((f * g) % g, Filter(prime))
                self.assertEqual((f * g + r) % g, r)

    def test_near_and_far_terms_together(self):
        chance = chance_of(33)
        for prime in PRIMES:
            g = some_divisor(chance, prime)
            near, far = some_filter(chance, prime), some_filter(chance, prime, 8, FAR)
            self.assertEqual((near + far) % g, near % g + far % g)

    def test_terms_that_cancel(self):
        g = Filter(2, [(0, 1), (1, 1), (2, 1)])
        self.assertEqual((Filter.shift(2, 3 * FAR) + Filter(2, ONE)) % g, Filter(2))
        self.assertEqual((Filter.shift(2, 3 * FAR) + Filter.shift(2, -3 * FAR)) % g, Filter(2))

    def test_the_widest_divisor(self):
        chance = chance_of(34)
        for prime in PRIMES:
            g = Filter(prime, [(-24, 1), (24, 1)] + [(k, chance.randint(0, prime - 1)) for k in range(-23, 24)])
            f = Filter(prime, [(chance.randint(-FAR, FAR), chance.randint(1, prime - 1)) for k in range(16)])
            shift = Filter.shift(prime, FAR)
            self.assertEqual((f * shift) % g, ((f % g) * (shift % g)) % g)

    def test_divisors_of_one_term(self):
        f = Filter(5, [(-FAR, 1), (0, 2), (FAR, 3)])
        for offset in (0, 3, -24):
            self.assertEqual(f % Filter(5, [(offset, 4)]), Filter(5))

    def test_offsets_of_a_thousand_digits(self):
        g = Filter(2, [(0, 1), (1, 1), (2, 1)])
        huge = 10 ** 990
        for k in range(-3, 4):
            self.assertEqual(Filter.shift(2, huge + k) % g, Filter.shift(2, (huge + k) % 3) % g)
            self.assertEqual(Filter.shift(2, k - huge) % g, Filter.shift(2, (k - huge) % 3) % g)


class Normals(unittest.TestCase):
    def test_small_ones(self):
        self.assertEqual(Filter(5, [(-2, 3), (1, 2)]).normal().terms(), [(0, 4), (3, 1)])
        self.assertEqual(Filter(7, [(3, 1), (4, 5), (9, 3)]).normal().terms(), [(0, 5), (1, 4), (6, 1)])
        self.assertEqual(Filter(7, [(-24, 6)]).normal().terms(), [(0, 1)])

    def test_without_terms(self):
        self.assertEqual(Filter(5).normal(), Filter(5))

    def test_what_a_normal_is(self):
        chance = chance_of(41)
        for prime in PRIMES:
            for k in range(60):
                f = some_divisor(chance, prime)
                n = f.normal()
                self.assertEqual((n.prime, n.low(), n[n.high()], n.span()), (prime, 0, 1, f.span()))
                self.assertEqual(n.normal(), n)
                unit = Filter(prime, [(f.low(), f[f.high()])])
                self.assertEqual(n * unit, f)
                self.assertEqual((n * Filter(prime, [(5 - 2 * k, prime - 1)])).normal(), n)


class Divisors(unittest.TestCase):
    def check(self, f, g):
        d, m = gcd(f, g), lcm(f, g)
        self.assertEqual((gcd(g, f), lcm(g, f)), (d, m))
        self.assertEqual((d.normal(), m.normal()), (d, m))
        self.assertIs(divides(d, f), True)
        self.assertIs(divides(d, g), True)
        self.assertIs(divides(f, m), True)
        self.assertIs(divides(g, m), True)
        if f and g:
            self.assertEqual(d * m, (f * g).normal())
            self.assertEqual(d.span() + m.span(), f.span() + g.span())
        return d, m

    def test_small_ones(self):
        f, g = Filter(2, [(0, 1), (2, 1)]), Filter(2, [(0, 1), (3, 1)])
        self.assertEqual(gcd(f, g).terms(), [(0, 1), (1, 1)])
        self.assertEqual(lcm(f, g).terms(), [(0, 1), (1, 1), (3, 1), (4, 1)])
        self.assertEqual(gcd(f=f, g=g), gcd(f, g))
        self.assertEqual(lcm(f=f, g=g), lcm(f, g))

    def test_products_of_common_filters(self):
        chance = chance_of(51)
        for prime in PRIMES:
            for k in range(25):
                common = some_divisor(chance, prime, 4, 6)
                a, b = some_divisor(chance, prime, 4, 6), some_divisor(chance, prime, 4, 6)
                d, m = self.check(common * a, common * b)
                self.assertIs(divides(common, d), True)
                self.assertIs(divides(m, common * a * b), True)
                self.assertEqual(d, (common * gcd(a, b)).normal())

    def test_every_small_divisor(self):
        filters = [f for f in all_filters(3, 0, 2) if f]
        everything = filters + [f * g for f in filters[:7] for g in filters]
        for f in filters:
            for g in filters[::2]:
                d, m = self.check(f, g)
                for h in filters:
                    self.assertEqual(divides(h, f) and divides(h, g), divides(h, d))
                for h in everything[::5]:
                    self.assertEqual(divides(f, h) and divides(g, h), divides(m, h))

    def test_units(self):
        f = Filter(7, [(-3, 2), (0, 5), (2, 1)])
        for unit in (Filter(7, [(0, 1)]), Filter(7, [(-24, 3)]), Filter(7, [(24, 6)])):
            self.assertEqual(gcd(f, unit), Filter(7, ONE))
            self.assertEqual(lcm(f, unit), f.normal())
            self.assertEqual((gcd(unit, unit), lcm(unit, unit)), (Filter(7, ONE), Filter(7, ONE)))
            self.assertEqual(gcd(f * unit, f), f.normal())
            self.check(f, unit)
            self.assertIs(divides(unit, f), True)
            self.assertIs(divides(f, unit), False)
            self.assertIs(divides(f, f * unit), True)
            self.assertIs(divides(f * unit, f), True)

    def test_without_terms(self):
        zero = Filter(5)
        for f in (Filter(5, [(-3, 2), (0, 5), (2, 1)]), Filter(5, [(7, 3)])):
            self.assertEqual((gcd(f, zero), gcd(zero, f)), (f.normal(), f.normal()))
            self.assertEqual((lcm(f, zero), lcm(zero, f)), (zero, zero))
            self.assertIs(divides(f, zero), True)
            self.assertIs(divides(zero, f), False)
        self.assertEqual((gcd(zero, zero), lcm(zero, zero)), (zero, zero))
        self.assertIs(divides(zero, zero), True)

    def test_divides(self):
        g = Filter(3, [(0, 1), (1, 1)])
        self.assertIs(divides(g, g * Filter(3, [(-4, 2), (7, 1)])), True)
        self.assertIs(divides(g, Filter(3, [(0, 1), (1, 2)])), False)
        self.assertIs(divides(g=g, f=g * g), True)
        self.assertIs(divides(f=g, g=g * g), False)

    def test_nothing_that_is_passed_is_changed(self):
        f, g = Filter(3, [(-1, 2), (4, 1)]), Filter(3, [(2, 2), (3, 1)])
        gcd(f, g), lcm(f, g), divides(f, g), f.normal()
        self.assertEqual((f.terms(), g.terms()), ([(-1, 2), (4, 1)], [(2, 2), (3, 1)]))

    def test_unlike_primes(self):
        for f in (Filter(2), Filter.shift(2, 1), Filter(2, [(0, 1), (3, 1)])):
            for g in (Filter(3), Filter.shift(3, 1), Filter(3, [(0, 1), (3, 1)])):
                for call in (gcd, lcm, divides):
                    with self.assertRaises(UnlikePrimes):
                        call(f, g)
                    with self.assertRaises(UnlikePrimes):
                        call(g, f)

    def test_the_widest_filters(self):
        chance = chance_of(52)
        for prime in PRIMES:
            f = Filter(prime, [(k, chance.randint(0, prime - 1)) for k in range(-23, 24)] + [(-24, 1), (24, 1)])
            g = Filter(prime, [(k, chance.randint(0, prime - 1)) for k in range(-23, 24)] + [(-24, 1), (24, 1)])
            self.check(f, g)


if __name__ == "__main__":
    unittest.main()
