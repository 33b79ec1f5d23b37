"""Texts of filters and of circles."""

from seenrows.circles import Circle
from seenrows.errors import BadLine, BadPrime, BadText
from seenrows.filters import Filter
from seenrows.kinds import PRIMES, is_name, is_prime
from seenrows.worlds import Watcher, World


def write_filter(f):
    """Return the text of a filter."""
    if not f:
        return "0"
    return "+".join([f"{coefficient}@{offset}" for offset, coefficient in f.terms()])


def is_number(word):
    """Tell whether the word has digits only, but for a minus sign in front of them."""
    digits = word[1:] if word.startswith("-") else word
    return digits.isascii() and digits.isdigit()


def filter_of(prime, text):
    """Return the filter of the prime with this text, None if there is none."""
    if text == "0":
        return Filter(prime)
    words = [term.split("@") for term in text.split("+")]
    if not all([len(pair) == 2 and is_number(pair[0]) and is_number(pair[1]) for pair in words]):
        return None
    f = Filter(prime, [(int(pair[1]), int(pair[0])) for pair in words])
    # Each filter has just one text, so whatever else was read amiss shows here.
    return f if write_filter(f) == text else None


def read_filter(prime, text):
    """Return the filter of the prime with this text."""
    if not is_prime(prime):
        raise BadPrime(prime)
    f = filter_of(prime, text) if isinstance(text, str) else None
    if f is None:
        raise BadText()
    return f


def row_line(word, row):
    """Return the line of a row, which begins with the word."""
    return " ".join([word] + [write_filter(f) for f in row])


def write_circle(circle):
    """Return the text of a circle."""
    world = circle.world
    lines = [f"world {world.prime} {world.width}"]
    lines.extend([row_line("rule", row) for row in world.rules()])
    for name in circle.names():
        lines.append(f"watcher {name}")
        lines.extend([row_line("sees", row) for row in circle[name]])
    return "".join([line + "\n" for line in lines])


def world_numbers(line):
    """Return the prime and the width that the first line tells, None if it tells none."""
    words = line.split(" ")
    if len(words) != 3 or words[0] != "world" or words[1] not in [str(prime) for prime in PRIMES]:
        return None
    # A width begins with no 0 and no minus sign.
    if not is_number(words[2]) or words[2][0] in "-0":
        return None
    return int(words[1]), int(words[2])


def row_of(prime, width, words):
    """Return the row of the filters with these texts, None if there is none."""
    if len(words) != width:
        return None
    row = [filter_of(prime, text) for text in words]
    return None if any([f is None for f in row]) else row


def rows_from(prime, width, word, lines, at):
    """Return the rows of the lines that begin with the word, from the index on, as long as they do."""
    rows = []
    for index in range(at, len(lines)):
        words = lines[index].split(" ")
        if words[0] != word:
            return rows
        row = row_of(prime, width, words[1:])
        if row is None:
            raise BadLine(index)
        rows.append(row)
    return rows


def name_of(line, names):
    """Return the name of the watcher of a line, None if there is none behind the names so far."""
    words = line.split(" ")
    if len(words) != 2 or words[0] != "watcher" or not is_name(words[1]):
        return None
    return None if names and words[1] <= names[-1] else words[1]


def circle_of(lines):
    """Return the circle that whole lines tell."""
    told = world_numbers(lines[0]) if lines else None
    if told is None:
        raise BadLine(0)
    prime, width = told
    rules = rows_from(prime, width, "rule", lines, 1)
    world = World(prime, width, rules)
    at = 1 + len(rules)
    names = []
    watchers = []
    while at < len(lines):
        name = name_of(lines[at], names)
        if name is None:
            raise BadLine(at)
        rows = rows_from(prime, width, "sees", lines, at + 1)
        names.append(name)
        watchers.append(Watcher(world, rows))
        at = at + 1 + len(rows)
    return Circle(world, list(zip(names, watchers)))


def read_circle(text):
    """Return the circle with this text."""
    if not isinstance(text, str):
        raise BadLine(0)
    lines = text.split("\n")
    circle = circle_of(lines[:-1])
    # Behind the last line feed nothing stands.
    if lines[-1]:
        raise BadLine(len(lines) - 1)
    return circle
