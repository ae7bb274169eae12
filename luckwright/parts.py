"""Parts: exact numbers, (top, low) made small, the low above nought."""

from math import gcd

from luckwright.errors import BadPart

NOUGHT = (0, 1)
ONE = (1, 1)


def shared(one, other):
    """Return the greatest number that goes into both."""
    return gcd(one, other)


def part(top, low=1):
    """Return a part made small; BadPart by nought."""
    if low == 0:
        raise BadPart("a part by nought")
    size = shared(top, low)
    if low < 0:
        size = -size
    return top // size, low // size


def plus(one, other):
    """Return the sum of two parts."""
    return part(one[0] * other[1] + other[0] * one[1], one[1] * other[1])


def minus(one, other):
    """Return the difference of two parts."""
    return part(one[0] * other[1] - other[0] * one[1], one[1] * other[1])


def times(one, other):
    """Return the product of two parts."""
    return part(one[0] * other[0], one[1] * other[1])


def over(one, other):
    """Return a part by another; BadPart by nought."""
    return part(one[0] * other[1], one[1] * other[0])


def is_less(one, other):
    """Tell whether a part is less than another."""
    return minus(one, other)[0] < 0


def lesser(one, other):
    """Return the lesser of two parts."""
    if is_less(other, one):
        return part(*other)
    return part(*one)


def greater(one, other):
    """Return the greater of two parts."""
    if is_less(one, other):
        return part(*other)
    return part(*one)


def total(parts):
    """Return the sum of parts."""
    found = NOUGHT
    for one in parts:
        found = plus(found, one)
    return found


def product(parts):
    """Return the product of parts, one for none."""
    found = ONE
    for one in parts:
        found = times(found, one)
    return found


def power(one, count):
    """Return a part so often times itself; BadPart below nought."""
    return part(raised(one[0], count), raised(one[1], count))


def raised(number, count):
    """Return a whole number so often times itself; BadPart below nought."""
    if count < 0:
        raise BadPart("a number less often than never times itself")
    found = 1
    while count > 0:
        if count & 1:
            found = found * number
        number = number * number
        count = count // 2
    return found


def check_chance(one):
    """Return a part from nought to one, made small; BadPart."""
    found = part(one[0], one[1])
    if found[0] < 0 or found[0] > found[1]:
        raise BadPart("no chance: a part below nought or above one")
    return found


def other_way(one):
    """Return one less a chance."""
    return minus(ONE, one)


def least_of(parts):
    """Return the least of parts; BadPart for none."""
    if len(parts) == 0:
        raise BadPart("the least of no parts")
    found = parts[0]
    for one in parts:
        found = lesser(found, one)
    return found


def greatest_of(parts):
    """Return the greatest of parts; BadPart for none."""
    if len(parts) == 0:
        raise BadPart("the greatest of no parts")
    found = parts[0]
    for one in parts:
        found = greater(found, one)
    return found


def told(one):
    """Return a part as it is written: the top, and a stroke and the low where it isn't one."""
    top, low = part(*one)
    if low == 1:
        return str(top)
    return f"{top}/{low}"
