"""The package's answers held against those of a second house, over many lines of calls drawn with a fixed seed."""

import random
import unittest

from tests import support
from tests.second import Second

LINES = 1500

# How often a call is drawn, by the name of its method in the second house.
OFTEN = {"clear": 0.2, "rules": 2, "shown": 1, "motion": 2, "strike": 2, "restore": 2, "choose": 12, "appeal": 6, "undo": 2,
         "set_now": 4, "see": 3, "read": 6, "order": 40, "debate": 4, "result": 16, "offered": 3, "may_be": 4, "told": 4,
         "even": 4, "ways": 2, "drawn": 1, "counts": 3}
MOST_CHANCES = 15


def drawn_number(draw, least, greatest):
    """Mostly within the range, now and then at its edges or outside."""
    if draw.random() < 0.1:
        return draw.choice([least - 1, least, greatest, greatest + 1, -10 ** 18, 10 ** 18])
    return draw.randint(least, greatest)


def drawn_word(draw):
    number = draw.randint(0, 9)
    return draw.choice([str(number), str(number), "0%d" % number, "A", "B", "AB", "", "%06d" % number, "x"])


def drawn_line(draw):
    stage = draw.randint(1, 3) if draw.random() < 0.97 else draw.randint(0, 10)
    if draw.random() < 0.03:
        names = ["ROUNDS", "GAP", "LEVELS", "TOPICS", "RELEASE", "ROUND", "", "SIZE", "SEED"]
        return " ".join([draw.choice(names)] + [drawn_word(draw) for turn in range(draw.randint(0, 4))])
    return draw.choice([
        "ROUNDS %d" % draw.randint(3, 9), "OFFER %d" % draw.choice([1, 2, 3, 3, 4, 5]), "GAP %d" % draw.randint(0, 3),
        "UNLIKE %d" % draw.randint(0, 1), "SIZE %d" % draw.choice([2, 4]), "SEED %d" % draw.randint(0, 99999),
        "LEVELS %d %d %d" % (stage, draw.randint(1, 3), draw.randint(3, 5)), "  TOPICS %d A  B C D E" % stage,
        "TOPICS %d C D E F G" % stage, "RELEASE %d %d" % (stage, draw.randint(0, 60)), "RELEASE %d 50" % stage,
        "RELEASE %d 90" % stage, ""])


def drawn_rules(draw):
    lines = {}
    for turn in range(draw.randint(0, 12)):
        line = drawn_line(draw)
        lines[" ".join(line.split()[:2]) if draw.random() < 0.95 else turn] = line
    text = support.codes("\n".join(lines.values()))
    if draw.random() < 0.03:
        text = text + [draw.choice([-1, 256, 200])]
    return text


def drawn_topic(draw):
    return support.codes(draw.choice("ABCDEFGH") if draw.random() < 0.97 else draw.choice(["", "a", "ABCDEFGHI", "A B"]))


def drawn_text(draw):
    return [drawn_number(draw, 0, 255)] * draw.choice([0, 1, 2]) if draw.random() < 0.97 else [65] * draw.randint(99, 102)


def drawn_clock(draw, second):
    zone = drawn_number(draw, -900, 900)
    if draw.random() < 0.1:
        return [zone, drawn_number(draw, -1000, 201000)]
    return [zone, zone + draw.choice([second.now, second.now - draw.randint(0, 60), draw.randint(-5, 70)])]


def drawn_stage(draw, second):
    return drawn_number(draw, 1, max(len(second.rounds), 1))


def drawn_offered(draw, second):
    """A round, and mostly one of its motions."""
    stage = drawn_stage(draw, second)
    if not 1 <= stage <= len(second.rounds) or draw.random() < 0.1:
        return [stage, drawn_number(draw, 1, 14)]
    return [stage, draw.choice(second.rounds[stage - 1])]


def drawn_room(draw):
    return draw.choice([0, 1, 2, 99]) if draw.random() < 0.9 else drawn_number(draw, 0, 99)


def drawn_room_there(draw, second):
    """A round and a room, mostly such as have an order."""
    if not second.orders or draw.random() < 0.1:
        return [drawn_stage(draw, second), drawn_room(draw)]
    return list(draw.choice(list(second.orders))[:2])


def drawn_order(draw, second):
    stage = drawn_stage(draw, second)
    numbers = second.rounds[stage - 1] if 1 <= stage <= len(second.rounds) else [1]
    numbers = draw.sample(numbers, len(numbers))
    if draw.random() < 0.1:
        numbers[0] = drawn_number(draw, 0, 99)
    if draw.random() < 0.03:
        numbers = numbers + [drawn_number(draw, 1, 12)]
    return [stage, drawn_room(draw), draw.randint(0, 1) if draw.random() < 0.97 else drawn_number(draw, 0, 1), numbers]


def drawn_result(draw, second):
    size = second.value("SIZE") if draw.random() < 0.95 else draw.choice([1, 2, 3, 4, 5])
    places = draw.sample(range(size), size)
    if draw.random() < 0.05:
        places[0] = drawn_number(draw, 0, size - 1)
    return drawn_room_there(draw, second) + [places]


def drawn_handed(draw, second, name):
    """What a call of that name is handed."""
    if name == "rules":
        return [drawn_rules(draw)]
    if name == "motion":
        return [drawn_number(draw, 1, 5), drawn_topic(draw), drawn_text(draw)]
    if name in ("strike", "restore"):
        return [drawn_number(draw, 1, 10)]
    if name in ("told", "even"):
        return drawn_offered(draw, second)[1:]
    if name == "appeal":
        return drawn_offered(draw, second)
    if name == "set_now":
        return [drawn_number(draw, second.now, second.now + 20)]
    if name == "see":
        return drawn_clock(draw, second)
    if name == "read":
        return [drawn_stage(draw, second), drawn_number(draw, 0, 3)] + drawn_clock(draw, second)
    if name == "order":
        return drawn_order(draw, second)
    if name == "debate":
        return drawn_room_there(draw, second)
    if name == "result":
        return drawn_result(draw, second)
    if name in ("offered", "may_be"):
        return [drawn_number(draw, 1, len(second.rounds) + 1)]
    if name == "ways":
        return [drawn_number(draw, 0, 40), drawn_number(draw, 0, draw.choice([20, 40, 240]))]
    if name == "drawn":
        return [drawn_number(draw, 1, 9)]
    return []


BUILDERS = {"clear": support.clear, "rules": support.rules, "shown": support.shown, "motion": support.motion,
            "strike": support.strike, "restore": support.restore, "choose": support.choose, "appeal": support.appeal,
            "undo": support.undo, "set_now": support.now, "see": support.see, "read": support.read, "order": support.order,
            "debate": support.debate, "result": support.result, "offered": support.offered, "may_be": support.may,
            "told": support.told, "even": support.even, "ways": support.ways, "drawn": support.lot, "counts": support.counts}


class Line:
    """A line of calls, drawn one by one by what the second house holds then."""

    def __init__(self, draw):
        self.draw, self.second, self.calls, self.expected = draw, Second(), [], []
        for turn in range(draw.randint(0, 3)):
            self.add("rules")
        for turn in range(draw.randint(3, 30)):
            self.add("motion")
        for turn in range(draw.randint(5, 110)):
            self.add(draw.choices(list(OFTEN), list(OFTEN.values()))[0])

    def add(self, name):
        if name in ("even", "ways") and [call for call, handed in self.calls].count(name) > MOST_CHANCES // 2 - 1:
            return
        handed = drawn_handed(self.draw, self.second, name)
        self.calls.append((name, handed))
        if name == "clear":
            self.second = Second()
            self.expected.append([0])
        else:
            self.expected.append(getattr(self.second, name)(*handed))


class AgainstTheSecond(unittest.TestCase):
    def test_lines_of_calls(self):
        draw = random.Random(2026)
        met = {}
        for turn in range(LINES):
            line = Line(draw)
            answered = support.ask(*[BUILDERS[name](*handed) for name, handed in line.calls])
            self.assertEqual(answered, line.expected, line.calls)
            for (name, handed), answer in zip(line.calls, line.expected):
                met.setdefault(name, set()).add(min(answer[0], 1))
        self.check_met(met)

    def check_met(self, met):
        """A comparison in which some refusal never came up would tell little."""
        refusals = {"clear": set(), "rules": {-1, -3}, "shown": set(), "motion": {-1, -4}, "strike": {-6, -7},
                    "restore": {-6, -7}, "choose": {-7, -9}, "appeal": {-4, -6, -7}, "undo": {-4, -6}, "set_now": {-1},
                    "see": {-1, -4}, "read": {-1, -4, -6}, "order": {-1, -4, -5, -6, -7}, "debate": {-5, -6},
                    "result": {-1, -5, -6}, "offered": {-6}, "may_be": {-6}, "told": {-6}, "even": {-6}, "ways": {-1},
                    "drawn": {-1}, "counts": set()}
        self.assertEqual(set(met), set(refusals))
        for name, numbers in refusals.items():
            self.assertEqual({number for number in met[name] if number < 0}, numbers, name)
            self.assertTrue(met[name] & {0, 1}, name)
