"""Points, and the worths of sayings at them and on steps."""

from leansay.errors import NoPoint


# A truth is an int to Python, but stands for no whole number.
def is_whole(thing):
    return isinstance(thing, int) and not isinstance(thing, bool)


def is_point(thing):
    if not isinstance(thing, tuple) or len(thing) != 3:
        return False
    if not all([is_whole(number) for number in thing]):
        return False
    n = thing[0]
    return n >= 1 and 0 <= thing[1] <= n and 0 <= thing[2] <= n


def must_be_point(thing):
    if not is_point(thing):
        raise NoPoint("a point is a tuple (n, x, y), n from 1 on, x and y from 0 to n")


def worth(saying, point):
    must_be_point(point)
    return saying.out_of(point[0], point[1], point[2])


def on_step(saying, n, x):
    return [saying.out_of(n, x, y) for y in range(n + 1)]


def on_steps(saying, n):
    return [on_step(saying, n, x) for x in range(n + 1)]


def least_on_steps(saying, n):
    least = None
    for x, worths in enumerate(on_steps(saying, n)):
        for y, found in enumerate(worths):
            if least is None or found < least[0]:
                least = (found, (n, x, y))
    return least
