"""Stage 2: bits of webs, addresses among them, and lots of bits turned and put in another order."""

from cubewebs.errors import NoCube, NoLine
from cubewebs.kinds import are_bits, are_lots, each_once, rising_below
from cubewebs.webs import far_of, far_table


def bits_good(web, thing):
    """Whether the thing is bits of the web."""
    return are_bits(thing, web[0])


def addresses_good(web, thing):
    """Whether the thing is addresses of the web: bits that stretch nothing."""
    return bits_good(web, thing) and first_stretch(web, thing) is None


def stretch_of(web, bits, one, other):
    """How many bits of two places are unlike, less how far they are apart; else NoCube, NoPlace."""
    _refuse_no_bits(web, bits)
    return _stretch(far_of(web, one, other), bits[one], bits[other])


def first_stretch(web, bits):
    """The first two places without a way or with a stretch, None without such; else NoCube."""
    _refuse_no_bits(web, bits)
    far = far_table(web)
    for a in range(web[0]):
        for b in range(a + 1, web[0]):
            if _stretch(far[a][b], bits[a], bits[b]) != 0:
                return (a, b)
    return None


def web_by(lots):
    """The web with a place for each tuple, tied where just one bit is unlike; else NoCube."""
    refuse_no_lots(lots)
    many = len(lots)
    pairs = [(a, b) for a in range(many) for b in range(a + 1, many)]
    return (many, tuple([(a, b) for a, b in pairs if _unlike_many(lots[a], lots[b]) == 1]))


def turned_bits(lots, numbers):
    """The lots in which each bit of these numbers is turned; else NoCube, NoLine."""
    refuse_no_lots(lots)
    if not rising_below(numbers, len(lots[0])):
        raise NoLine()
    return tuple([_turned_row(row, numbers) for row in lots])


def put_bits(lots, order):
    """The lots with, at each place, the bit whose number stands there; else NoCube, NoLine."""
    refuse_no_lots(lots)
    if not each_once(order, len(lots[0])):
        raise NoLine()
    return _picked(lots, order)


def lean_bits(lots):
    """The lots without the bits that are alike in all of them; else NoCube."""
    refuse_no_lots(lots)
    columns = columns_of(lots)
    return _picked(lots, [number for number in range(len(columns)) if len(set(columns[number])) > 1])


def led_bits(one, other):
    """The first (order, turned) that leads the one lots to the other, None without; else NoCube."""
    refuse_no_lots(one)
    refuse_no_lots(other)
    if len(one) != len(other) or len(one[0]) != len(other[0]):
        return None
    here = columns_of(one)
    order = []
    turned = []
    for at, column in enumerate(columns_of(other)):
        # What fits at one place fits at just those others whose columns are of the same kind:
        # so to take the least one that is left never spoils a later place.
        fit = [k for k in range(len(here)) if k not in order and _kind(here[k]) == _kind(column)]
        if not fit:
            return None
        order.append(fit[0])
        if here[fit[0]] != column:
            turned.append(at)
    return (tuple(order), tuple(turned))


def columns_of(lots):
    """By the bits' numbers, the tuple of what the bit is in each of the tuples."""
    return [tuple([row[number] for row in lots]) for number in range(len(lots[0]))]


def refuse_no_lots(lots):
    """NoCube where what is handed in is no lots of bits."""
    if not are_lots(lots):
        raise NoCube()


def _refuse_no_bits(web, bits):
    if not bits_good(web, bits):
        raise NoCube()


def _stretch(steps, one, other):
    return None if steps is None else _unlike_many(one, other) - steps


def _unlike_many(one, other):
    return sum(1 for k in range(len(one)) if one[k] != other[k])


def _turned_row(row, numbers):
    return tuple([1 - row[k] if k in numbers else row[k] for k in range(len(row))])


def _picked(lots, numbers):
    return tuple([tuple([row[number] for number in numbers]) for row in lots])


def _kind(column):
    """Of a column and the one turned, that which begins with 0."""
    return tuple([bit ^ column[0] for bit in column])
