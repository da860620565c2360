"""The refusals of the calls 12 to 22: each alone, and two at once, where the one nearest to 0 is answered."""

import unittest

from tests.helper import (FULL, HUGE, LIMIT, ask, cut, cutout, keep, keepout, load, printing, raster, reach, reasons, room,
                          size, uncut, unkeep, way)

THING = ("kind", "lo", "hi", "r")
CELLS = ("x", "y", "pitch", "columns", "rows")

# For each call how it is told, its arguments behind the place, and whether it has points.
CALLS = {
    "all": (reasons, THING + ("m",), True),
    "room": (room, THING, True),
    "keep": (keep, THING, True),
    "unkeep": (unkeep, ("i",), False),
    "keepout": (keepout, ("i",), False),
    "cut": (cut, (), True),
    "uncut": (uncut, ("i",), False),
    "cutout": (cutout, ("i",), False),
    "raster": (raster, THING + ("m",) + CELLS, False),
    "reach": (reach, THING + ("m",) + CELLS + ("i", "j"), False),
    "way": (way, THING + ("m",) + CELLS + ("i", "j", "k", "l"), False),
}

# Some of each on the board, and as many as there may be of each.
SOME = FULL
MOST = FULL + "".join(f"cut {4 * i + 2} 2 {4 * i + 4} 2 {4 * i + 4} 4\n" for i in range(6)) + "keep all 1 1 0 5 5\n" * 29

RIGHT = {"text": SOME, "place": 0, "kind": 0, "lo": 1, "hi": 1, "r": 0, "m": 1, "points": (90, 30, 95, 30, 95, 35),
         "x": 10, "y": 10, "pitch": 5, "columns": 3, "rows": 2, "i": 0, "j": 0, "k": 1, "l": 1}

WRONG = [
    (-1, "place", (2, -1, HUGE, -HUGE)),
    (-2, "place", (1,)),
    (-3, "lo", (0, 2, -1, HUGE, -HUGE)),
    (-3, "hi", (0, 4, -1, HUGE, -HUGE)),
    (-4, "kind", (-1, 3, 4, HUGE, -HUGE)),
    (-5, "r", (-1, LIMIT + 1, HUGE, -HUGE)),
    (-6, "m", (0, -1, LIMIT + 1, HUGE, -HUGE)),
    (-7, "points", ((), (5,), (90, 30, 95, 30, 95), (HUGE,), (7,) * 66, (HUGE,) * 100)),
    (-7, "columns", (0, 25, -1, HUGE, -HUGE)),
    (-7, "rows", (0, 25, -1, HUGE, -HUGE)),
    (-8, "points", ((LIMIT + 1, 5, 90, 30, 95, 35), (90, 30, 95, -LIMIT - 1, 95, 35), (HUGE,) * 64, (-HUGE, 1))),
    (-8, "x", (LIMIT - 9, -LIMIT - 1, HUGE, -HUGE)),
    (-8, "y", (LIMIT - 4, -LIMIT - 1, HUGE, -HUGE)),
    (-8, "pitch", (0, -1, LIMIT, LIMIT + 1, HUGE, -HUGE)),
    (-9, "points", ((90, 30, 90, 30), (90, 30, 92, 32, 94, 34), (90, 30, 95, 35, 95, 30, 90, 35), (7,) * 64)),
    (-10, "i", (-1, HUGE, -HUGE)),
    (-10, "j", (-1, 2, HUGE, -HUGE)),
    (-10, "k", (-1, 3, HUGE, -HUGE)),
    (-10, "l", (-1, 2, HUGE, -HUGE)),
]

# What is wrong for some calls alone.
ALSO_WRONG = {
    "keep": [(-11, "text", (MOST,))],
    "cut": [(-9, "points", ((90, 30), (90, 30, 95, 30), (900, 900))), (-11, "text", (MOST,)),
            (-12, "points", ((95, 30, 100, 30, 95, 35), (12, 12, 14, 12, 14, 14), (200, 0, 210, 0, 210, 10)))],
    "unkeep": [(-10, "i", (3,))],
    "keepout": [(-10, "i", (3,))],
    "uncut": [(-10, "i", (2,))],
    "cutout": [(-10, "i", (2,))],
    "reach": [(-10, "i", (3,))],
    "way": [(-10, "i", (3,))],
}


def told(name, arguments):
    call, names, has_points = CALLS[name]
    return call(arguments["place"], *[arguments[part] for part in names], *(arguments["points"] if has_points else ()))


def wrong_for(name):
    """Each way in which the arguments of the call may be wrong: a refusal, an argument, its value."""
    call, names, has_points = CALLS[name]
    parts = ("place", "text") + names + (("points",) if has_points else ())
    faults = [(refusal, part, value) for refusal, part, values in WRONG + ALSO_WRONG.get(name, [])
              for value in values if part in parts]
    return [fault for fault in faults if name != "keep" or fault[1:] != ("kind", 3)]


class Refusals(unittest.TestCase):
    def assert_refused(self, name, refusal, *wrong):
        arguments = {**RIGHT, **dict(wrong)}
        answers = ask(load(0, arguments["text"]), printing(0), told(name, arguments), printing(0), size(1))
        self.assertEqual(answers[2], [refusal], (name, wrong))
        self.assertEqual(answers[3], answers[1])
        self.assertEqual(answers[4], [-2])

    def test_right_arguments(self):
        for name in CALLS:
            self.assertGreaterEqual(ask(load(0, SOME), told(name, RIGHT))[1][0], 0, name)

    def test_keep_has_a_kind_more(self):
        self.assertEqual(ask(load(0, SOME), told("keep", {**RIGHT, "kind": 3}))[1], [3])

    def test_greatest_right_arguments(self):
        for name in ("all", "room", "keep", "raster", "reach", "way"):
            arguments = {**RIGHT, "kind": 2, "lo": 3, "hi": 3, "r": LIMIT, "m": LIMIT}
            self.assertGreaterEqual(ask(load(0, SOME), told(name, arguments))[1][0], 0, name)

    def test_each_alone(self):
        for name in CALLS:
            for refusal, part, value in wrong_for(name):
                self.assert_refused(name, refusal, (part, value))

    def test_two_at_once(self):
        for name in CALLS:
            # One value of each sort is enough here.
            sorts = list({(refusal, part): value for refusal, part, value in wrong_for(name)}.items())
            for i, ((refusal, part), value) in enumerate(sorts):
                for (other_refusal, other), other_value in sorts[:i]:
                    if part != other:
                        nearest = max(refusal, other_refusal)
                        self.assert_refused(name, nearest, (part, value), (other, other_value))

    def test_all_at_once(self):
        for name, refusal in (("all", -3), ("room", -3), ("keep", -3), ("raster", -3), ("reach", -3), ("way", -3),
                              ("cut", -7), ("unkeep", -10), ("keepout", -10), ("uncut", -10), ("cutout", -10)):
            wrong = {"kind": 9, "lo": 9, "hi": 0, "r": -1, "m": 0, "points": (), "x": HUGE, "y": HUGE, "pitch": 0,
                     "columns": 0, "rows": 25, "i": -1, "j": -1, "k": -1, "l": -1}
            self.assert_refused(name, refusal, *wrong.items())
            for place, at_place in ((7, -1), (1, -2)):
                self.assert_refused(name, at_place, *wrong.items(), ("place", place))

    def test_full_before_fit(self):
        self.assert_refused("cut", -11, ("text", MOST), ("points", (200, 0, 210, 0, 210, 10)))

    def test_no_polygon_before_fit(self):
        self.assert_refused("cut", -9, ("points", (200, 0, 210, 0)))
        self.assert_refused("cut", -9, ("points", (200, 0, 210, 0, 220, 0)))


if __name__ == "__main__":
    unittest.main()
