"""Helper of all tests: webs to ask about, things of wrong kinds, and answers found by plain search.

Nothing here asks the program: what a test compares with is found in another way.
"""

import signal
import unittest
from itertools import combinations, permutations, product


def deep(thing, times):
    """The thing within lists, tuples and dicts by turns, so many deep."""
    for turn in range(times):
        thing = ([thing], (thing,), {0: thing})[turn % 3]
    return thing


# Whatever may be handed in: none of these is a place or a tie's number of any web, nor a web.
JUNK = [
    None, True, False, -1, -2, -8, 28, 99, 10 ** 39, -(10 ** 39),
    "", "0", "1", "01", "012", "lies", "odd", "apart", "break", "a b", "~" * 100,
    [], (), {}, [0], (0,), [1], (1,), {0: 1}, {0: 0, 1: 1}, {"lies": ()}, [[0, 1]], [(0, 1)],
    (None,), (True,), ("0",), ((),), ([],), ({},), (0, None), (0, "1"), ("0", 1), ([0], [1]),
    (0, True), (True, False), (False, True), (0, 10 ** 39), (-1, 0), (0, -1),
    deep(0, 7), deep(0, 8), deep((), 7), deep([], 7), [0] * 1000, tuple(range(1000)),
]


def junk_but(*things):
    """What may be handed in, but for these: a truth is not taken for a number."""
    return [thing for thing in JUNK if repr(thing) not in [repr(right) for right in things]]


# What is no lots of bits, whatever else it is; `((),)` is one.
NO_LOTS = junk_but(((),)) + [
    (0, 1), ((0,), 1), (0, (1,)), ((0,), [1]), ([0], [1]), [(0,), (1,)], ("0", "1"), {(0,): 0, (1,): 1},
    ((0,), (0,)), ((), ()), ((1, 0), (0, 1), (1, 0)), ((0,), (0, 1)), ((0, 1), (0,)), ((), (0,)),
    ((0,), (2,)), ((-1,), (0,)), ((0,), (True,)), ((False,), (1,)), ((None,),), (("0",),), (((0,),),), ((0.0,),),
    ((0,) * 13,), ((1,) * 12, (0,) * 13), tuple((0,) * 13 + (bit,) for bit in (0, 1)),
    tuple(product((0, 1), repeat=3)) + ((0, 0, 0),), tuple(product((0, 1), repeat=4))[:9],
    tuple(product((0, 1), repeat=4)),
]

# What is no rising tuple of whole numbers from 0 to 2.
NO_RISING = junk_but((), (0,), (1,)) + [
    (0, 0), (1, 0), (2, 1), (0, 2, 1), (0, 1, 1), (0, 1, 2, 2), (0, 1, 2, 3), (3,), (2, 3), (-1,), (-1, 2), (-3,),
    (0, True), (False, 1), (True, 2), (0, 1, None), (0, "1"), ((0, 1),), (0, (1,)), [0, 1], {0: 0, 1: 1}, "02",
]

# What is no tuple with each of the whole numbers 0, 1 and 2 once.
NO_ORDER = JUNK + [
    (0, 1), (2, 1), (0, 1, 2, 3), (0, 0, 1), (0, 1, 1), (2, 2, 2), (1, 2, 3), (0, 1, 3), (-1, 0, 1), (0, 1, -1),
    (0, 1, 2, 0), [0, 1, 2], "012", {0: 0, 1: 1, 2: 2}, (0, True, 2), (False, 1, 2), (False, True, 2), (0, 1, "2"),
    (0, 1, None), ((0, 1, 2),), (0, 1, (2,)), ([0], [1], [2]), ({}, [], ()), (0, 1, [2]), (10 ** 39, 0, 1),
]


def web(many, *ties):
    """A web as the document writes it."""
    return (many, tuple(sorted(ties)))


def all_pairs(many):
    return list(combinations(range(many), 2))


def all_webs(most):
    """All webs of at most so many places."""
    for many in range(1, most + 1):
        pairs = all_pairs(many)
        for mask in range(2 ** len(pairs)):
            yield (many, tuple(pair for at, pair in enumerate(pairs) if mask >> at & 1))


def ring_web(many):
    return web(many, (0, many - 1), *[(k, k + 1) for k in range(many - 1)])


def path_web(many):
    return web(many, *[(k, k + 1) for k in range(many - 1)])


def star_web(many):
    return web(many, *[(0, k) for k in range(1, many)])


def full_web(many):
    return web(many, *all_pairs(many))


def two_sided_web(one, other):
    """Each of the first places tied to each of the others."""
    return web(one + other, *[(a, one + b) for a in range(one) for b in range(other)])


def web_of_codes(codes):
    """A place for each code, tied where the codes have one bit unlike."""
    return (len(codes), tuple((a, b) for a, b in all_pairs(len(codes))
                              if bin(codes[a] ^ codes[b]).count("1") == 1))


def plus(base, *ties):
    """The web with these ties more."""
    return web(base[0], *base[1], *ties)


CUBE = web_of_codes(range(8))
LADDER = web_of_codes([0, 1, 3, 7, 8, 9, 11, 15])

NAMED = (
    [web(many) for many in range(1, 9)]
    + [path_web(many) for many in range(2, 9)]
    + [ring_web(many) for many in range(3, 9)]
    + [star_web(many) for many in range(3, 9)]
    + [full_web(many) for many in range(3, 9)]
    + [two_sided_web(2, 2), two_sided_web(2, 3), two_sided_web(3, 3), two_sided_web(4, 4),
       two_sided_web(2, 6), two_sided_web(3, 5)]
    + [CUBE, LADDER, web_of_codes([0, 1, 2, 3, 4, 5, 6]), web_of_codes([7, 0, 3, 5, 1, 4, 2]),
       web_of_codes([1, 3, 2, 6, 4, 5, 13]), web_of_codes([6, 4, 0, 2, 10, 3, 1, 5]),
       plus(CUBE, (0, 7)), plus(LADDER, (0, 6)), plus(ring_web(8), (0, 3)), plus(ring_web(8), (1, 6)),
       plus(ring_web(6), (0, 3)), plus(ring_web(8), (0, 3), (4, 7)), plus(ring_web(7), (0, 2)),
       plus(ring_web(7), (0, 3)), plus(ring_web(6), (0, 2)),
       web(8, *ring_web(7)[1], (3, 7)), web(8, *ring_web(5)[1], (4, 5), (5, 6), (6, 7)),
       web(6, *ring_web(5)[1]), web(8, *ring_web(7)[1]), web(7, *ring_web(3)[1], (3, 4), (4, 5), (5, 6)),
       web(8, *ring_web(5)[1], (5, 6), (6, 7), (5, 7)), web(8, (0, 7), (1, 6)), web(8, (6, 7)),
       web(7, (0, 1), (2, 3), (3, 4), (2, 5), (4, 5))]
)


class Numbers:
    """Numbers that jump about, the same ones in each run."""

    def __init__(self, start):
        self.now = start

    def below(self, many):
        self.now = (self.now * 6364136223846793005 + 1442695040888963407) % 2 ** 64
        return (self.now >> 33) % many

    def mixed(self, things):
        left = list(things)
        return [left.pop(self.below(len(left))) for _ in range(len(left))]


def stray_webs(times):
    """Webs of six to eight places: loose and thick ones, trees, pieces of cubes."""
    numbers = Numbers(times)
    found = []
    for turn in range(times):
        many = 6 + turn % 3
        keep = 1 + turn % 4
        found.append((many, tuple(pair for pair in all_pairs(many) if numbers.below(6) < keep)))
        names = numbers.mixed(range(many))
        ties = [(names[k], names[numbers.below(k)]) for k in range(1, many)]
        found.append(web(many, *[(min(tie), max(tie)) for tie in ties]))
        found.append(web_of_codes(numbers.mixed(range(8 if turn % 2 else 16))[:many]))
    return found


GREAT = NAMED + stray_webs(30)


def stray_rows(numbers, many, width):
    return tuple(tuple(numbers.below(2) for _ in range(width)) for _ in range(many))


def stray_lots(times):
    """Lots of one to eight tuples of up to twelve bits."""
    numbers = Numbers(times)
    found = []
    while len(found) < times:
        rows = stray_rows(numbers, 1 + numbers.below(8), numbers.below(13))
        if len(set(rows)) == len(rows):
            found.append(rows)
    return found


def few_lots(most):
    """All lots of up to four tuples of at most so many bits."""
    return [lots for width in range(most + 1) for many in range(1, 5)
            for lots in permutations(product((0, 1), repeat=width), many)]


def brute_far(asked):
    """How far places are, by shortening over each place in turn."""
    many, ties = asked
    far = [[0 if a == b else 99 for b in range(many)] for a in range(many)]
    for a, b in ties:
        far[a][b] = far[b][a] = 1
    for mid in range(many):
        for a in range(many):
            for b in range(many):
                far[a][b] = min(far[a][b], far[a][mid] + far[mid][b])
    return [[None if steps >= 99 else steps for steps in row] for row in far]


def brute_joined(asked):
    return all(None not in row for row in brute_far(asked))


def brute_tied(asked, one, other):
    return (one, other) in asked[1] or (other, one) in asked[1]


def brute_least_ways(asked, one, other):
    """All least ways, rising: all walks that grow place by place, until one arrives."""
    walks = [(one,)]
    for _ in range(asked[0]):
        ways = [walk for walk in walks if walk[-1] == other]
        if ways:
            return sorted(ways)
        walks = [walk + (place,) for walk in walks for place in range(asked[0])
                 if place not in walk and brute_tied(asked, walk[-1], place)]
    return []


def brute_together(far, one, other):
    (a, b), (c, d) = one, other
    return far[a][c] + far[b][d] != far[a][d] + far[b][c]


def brute_table(asked):
    far = brute_far(asked)
    return [[brute_together(far, one, other) for other in asked[1]] for one in asked[1]]


def brute_groups(asked):
    """Groups by painting: the colours of two ties that go together become one."""
    table = brute_table(asked)
    colours = list(range(len(table)))
    for one in range(len(table)):
        for other in range(len(table)):
            if table[one][other]:
                old, new = colours[other], colours[one]
                colours = [new if colour == old else colour for colour in colours]
    groups = [tuple(k for k in range(len(table)) if colours[k] == colour) for colour in set(colours)]
    return sorted(groups)


def brute_breaks(asked):
    """All breaks, rising."""
    table = brute_table(asked)
    every = range(len(table))
    return [(e, f, g) for e in every for f in every for g in every
            if table[e][f] and table[f][g] and not table[e][g]]


def brute_rings(asked, size):
    """All rings of so many places, from each place and in both directions."""
    walks = [(place,) for place in range(asked[0])]
    for _ in range(size - 1):
        walks = [walk + (place,) for walk in walks for place in range(asked[0])
                 if place not in walk and brute_tied(asked, walk[-1], place)]
    return [walk for walk in walks if brute_tied(asked, walk[-1], walk[0])]


def brute_is_ring(asked, ring):
    """Whether it is an odd ring, by its words in the document."""
    return (len(ring) in (3, 5, 7) and len(set(ring)) == len(ring)
            and all(brute_tied(asked, ring[k], ring[(k + 1) % len(ring)]) for k in range(len(ring))))


def brute_two_sided(asked):
    """The first way to give the places 0 and 1 so that tied ones are unlike, None without one."""
    for code in range(2 ** (asked[0] - 1)):
        sides = tuple(code >> (asked[0] - 1 - place) & 1 for place in range(asked[0]))
        if all(sides[a] != sides[b] for a, b in asked[1]):
            return sides
    return None


def brute_are_addresses(asked, addresses):
    """Whether rows of bits stretch nothing; that they are bits is not asked here."""
    far = brute_far(asked)
    return all(sum(x != y for x, y in zip(addresses[a], addresses[b])) == far[a][b]
               for a, b in all_pairs(asked[0]))


def brute_fits(asked, bits):
    """Whether there are addresses of so many bits, by trying, bits taken up in their order."""
    far = brute_far(asked)
    if any(None in row for row in far):
        return False
    order = sorted(range(asked[0]), key=lambda place: far[0][place])

    def tried(codes, used):
        if len(codes) == asked[0]:
            return True
        place = order[len(codes)]
        back = next(old for old in codes if far[old][place] == 1)
        for bit in range(min(used + 1, bits)):
            code = codes[back] ^ 1 << bit
            if all(bin(code ^ codes[old]).count("1") == far[old][place] for old in codes):
                if tried({**codes, place: code}, max(used, bit + 1)):
                    return True
        return False

    return tried({0: 0}, 0)


def brute_lies(asked):
    """Each place further on takes up one bit at most, so these are bits enough."""
    return brute_fits(asked, asked[0] - 1)


def brute_addresses(asked):
    """The addresses by groups: a bit is 1 where a least way from 0 has an odd number of the group."""
    groups = brute_groups(asked)
    rows = []
    for place in range(asked[0]):
        way = brute_least_ways(asked, 0, place)[0]
        ties = [asked[1].index((min(step), max(step))) for step in zip(way, way[1:])]
        rows.append(tuple(sum(tie in group for tie in ties) % 2 for group in groups))
    return tuple(rows)


def brute_all_addresses(asked, bits):
    """All addresses of so many bits, rising: place after place each code that is as far as it has to be."""
    far = brute_far(asked)

    def grown(codes):
        if len(codes) == asked[0]:
            yield tuple(tuple(code >> bit & 1 for bit in reversed(range(bits))) for code in codes)
            return
        due = far[len(codes)]
        for code in range(2 ** bits):
            if all((code ^ old).bit_count() == due[at] for at, old in enumerate(codes)):
                yield from grown(codes + [code])

    return grown([])


def brute_put(lots, order):
    return tuple(tuple(row[number] for number in order) for row in lots)


def brute_turned(lots, numbers):
    return tuple(tuple(bit ^ (number in numbers) for number, bit in enumerate(row)) for row in lots)


def all_rising(many):
    """All rising tuples of numbers below many, in their order."""
    return sorted(some for size in range(many + 1) for some in combinations(range(many), size))


def brute_renamings(asked, other):
    """All renamings of the one web to the other, rising, by trying all."""
    if asked[0] != other[0] or len(asked[1]) != len(other[1]):
        return
    ties = set(other[1])
    for names in permutations(range(asked[0])):
        if all((min(names[a], names[b]), max(names[a], names[b])) in ties for a, b in asked[1]):
            yield names


def some_names(many):
    """Names to rename webs by: all of few places, some of more."""
    if many <= 3:
        return list(permutations(range(many)))
    numbers = Numbers(many)
    turned = tuple(range(1, many)) + (0,)
    return [turned, tuple(reversed(range(many))), tuple(numbers.mixed(range(many)))]


class Case(unittest.TestCase):
    """What all tests do: ask, and look at what is told, refused and left as it was."""

    def ask(self, call, *handed):
        """What the call tells; what was handed in has to stay as it was."""
        kept = repr(handed)
        try:
            return call(*handed)
        finally:
            if repr(handed) != kept:
                self.fail(f"{call.__name__} changed {kept} to {handed!r}")

    def soon(self, call, *handed):
        """What the call tells; it has to come in good time, not by trying all there is."""
        def late(*_):
            raise AssertionError(f"{call.__name__}{handed!r} has no answer after ten seconds")

        before = signal.signal(signal.SIGALRM, late)
        signal.alarm(10)
        try:
            return self.ask(call, *handed)
        finally:
            signal.alarm(0)
            signal.signal(signal.SIGALRM, before)

    def told(self, due, call, *handed):
        """Just this is told: a truth is no number, a list no tuple."""
        got = self.ask(call, *handed)
        if repr(got) != repr(due):
            self.fail(f"{call.__name__}{handed!r} told {got!r}, not {due!r}")

    def refused(self, error, call, *handed):
        """Just this refusal, and no class above or below it; it is given back."""
        try:
            got = self.ask(call, *handed)
        except error as caught:
            if caught.__class__ is not error:
                self.fail(f"{call.__name__}{handed!r} refused with {caught!r}")
            return caught
        except Exception as caught:
            self.fail(f"{call.__name__}{handed!r} raised {caught!r}, not {error.__name__}")
        self.fail(f"{call.__name__}{handed!r} told {got!r}, but {error.__name__} is due")
