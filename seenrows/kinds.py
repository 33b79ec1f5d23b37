"""Questions about passed objects, of which nothing is known yet."""

PRIMES = (2, 3, 5, 7)
LETTERS = "abcdefghijklmnopqrstuvwxyz"
LONGEST_NAME = 8


def is_int(thing):
    """Tell whether the thing is an integer; True and False are none."""
    return isinstance(thing, int) and not isinstance(thing, bool)


def is_list(thing):
    """Tell whether the thing is a list, or a tuple in the place of one."""
    return isinstance(thing, (list, tuple))


def is_prime(thing):
    """Tell whether the thing is one of the primes of the package."""
    return is_int(thing) and thing in PRIMES


def is_term(thing):
    """Tell whether the thing is a list of two integers."""
    return is_list(thing) and len(thing) == 2 and is_int(thing[0]) and is_int(thing[1])


def first_bad_term(terms):
    """Return the index of the first thing in terms that is no term, None if there is none."""
    if not is_list(terms):
        return 0
    for index, thing in enumerate(terms):
        if not is_term(thing):
            return index
    return None


def is_count(thing):
    """Tell whether the thing is an integer from 1 on."""
    return is_int(thing) and thing >= 1


def is_below(limit, thing):
    """Tell whether the thing is an integer from 0 on that is less than the limit."""
    return is_int(thing) and 0 <= thing < limit


def is_digit(prime, thing):
    """Tell whether the thing is a digit of the prime."""
    return is_below(prime, thing)


def is_digits(prime, count, thing):
    """Tell whether the thing is a list of just so many digits of the prime."""
    return is_list(thing) and len(thing) == count and all([is_digit(prime, digit) for digit in thing])


def is_name(thing):
    """Tell whether the thing is a string of a few lower-case letters."""
    if not isinstance(thing, str) or not 1 <= len(thing) <= LONGEST_NAME:
        return False
    return all([sign in LETTERS for sign in thing])
