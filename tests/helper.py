"""What the tests share: how calls are told, how answers are parted, and a few boards."""

from copperboard.boards import answers

LIMIT = 10 ** 9
HUGE = 10 ** 18

SQUARE = "copper 1\noutline 0 0 100 0 100 100 0 100\n"

FULL = (
    "copper 35\ncore 1500\ncopper 70\ncore 200\ncopper 18\n"
    "outline 0 0 100 0 100 100 0 100\n"
    "cut 10 10 20 10 20 20 10 20\n"
    "cut 70 70 80 70 80 80\n"
    "keep track 1 2 3 50 50\n"
    "keep all 2 3 0 30 60 40 60\n"
    "keep via 3 3 1 60 20 70 20 70 30\n"
)


class Guarded(list):
    """A list that can't be changed."""

    def refuse(self, *args, **kwargs):
        raise AssertionError("the list handed in is being changed")

    __setitem__ = __delitem__ = __iadd__ = __imul__ = refuse
    append = extend = insert = pop = remove = clear = sort = reverse = refuse


def load(place, text):
    row = list(text) if isinstance(text, (bytes, list)) else list(text.encode("latin-1"))
    return [0, place, len(row)] + row


def printing(place):
    return [1, place]


def copy(to, source):
    return [2, to, source]


def same(place, other):
    return [3, place, other]


def size(place):
    return [4, place]


def area(place):
    return [5, place]


def mirror(place):
    return [6, place]


def shift(place, dx, dy):
    return [7, place, dx, dy]


def turn(place, k):
    return [8, place, k]


def point(place, x, y):
    return [9, place, x, y]


def between(place, i, j):
    return [10, place, i, j]


def may(place, kind, lo, hi, r, m, *numbers):
    return [11, place, kind, lo, hi, r, m, len(numbers)] + list(numbers)


def reasons(place, kind, lo, hi, r, m, *numbers):
    """The call all."""
    return [12, place, kind, lo, hi, r, m, len(numbers)] + list(numbers)


def room(place, kind, lo, hi, r, *numbers):
    return [13, place, kind, lo, hi, r, len(numbers)] + list(numbers)


def keep(place, kind, lo, hi, r, *numbers):
    return [14, place, kind, lo, hi, r, len(numbers)] + list(numbers)


def unkeep(place, i):
    return [15, place, i]


def keepout(place, i):
    return [16, place, i]


def cut(place, *numbers):
    return [17, place, len(numbers)] + list(numbers)


def uncut(place, i):
    return [18, place, i]


def cutout(place, i):
    return [19, place, i]


def raster(place, kind, lo, hi, r, m, x, y, pitch, columns, rows):
    return [20, place, kind, lo, hi, r, m, x, y, pitch, columns, rows]


def reach(place, kind, lo, hi, r, m, x, y, pitch, columns, rows, i, j):
    return [21, place, kind, lo, hi, r, m, x, y, pitch, columns, rows, i, j]


def way(place, kind, lo, hi, r, m, x, y, pitch, columns, rows, i, j, k, l):
    return [22, place, kind, lo, hi, r, m, x, y, pitch, columns, rows, i, j, k, l]


def parted(flat):
    """The answers, one list each."""
    result = []
    at = 0
    while at < len(flat):
        behind = at + 1 + flat[at]
        assert behind <= len(flat), flat
        result.append(flat[at + 1:behind])
        at = behind
    return result


def ask(*calls):
    """The answers to the calls on one list; the list handed in can't be changed and isn't."""
    told = [number for call in calls for number in call]
    handed = Guarded(told)
    flat = answers(handed)
    assert list(handed) == told
    assert isinstance(flat, list)
    assert all(type(number) is int for number in flat), flat
    result = parted(flat)
    assert len(result) == len(calls)
    return result


def loaded(text):
    """What load answers to the text, as one number."""
    return ask(load(0, text))[0][0]


def text_of(answer):
    """The text that print has answered."""
    assert answer[0] == len(answer) - 1, answer
    return bytes(answer[1:]).decode("ascii")


def printed(text, *calls):
    """The board of the text, printed after these calls, which are all answered with 0."""
    result = ask(load(0, text), *calls, printing(0))
    assert all(answer == [0] for answer in result[:-1]), result
    return text_of(result[-1])


def last(text, *calls):
    """What the last of these calls answers on the board of the text."""
    return ask(load(0, text), *calls)[-1]


def flat(points):
    """x and y of each point in turn."""
    return [number for point in points for number in point]


def square(left, low, width=5):
    """The corners of a square, in their form."""
    return [(left, low), (left + width, low), (left + width, low + width), (left, low + width)]


def words(points):
    """Points as the words of a line."""
    return " ".join(f"{x} {y}" for x, y in points)


def comb(count, left=0, low=0):
    """The corners of a simple polygon with that many corners (4 or more), no three of them on a line."""
    upper = [(left + i, low + i * i) for i in range(count - 1)]
    return upper + [(left - 1, low + count * count)]
