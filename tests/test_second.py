"""The package's answers held against those of a second house, over many lines of calls drawn with a fixed seed."""

import random
import unittest

from tests import support
from tests.second import Second

LINES = 1500


def drawn_number(draw, least, greatest):
    """Mostly within the range, now and then at its edges or outside."""
    if draw.random() < 0.1:
        return draw.choice([least - 1, least, greatest, greatest + 1, -10 ** 18, 10 ** 18])
    return draw.randint(least, greatest)


def drawn_word(draw):
    number = draw.randint(0, 9)
    return draw.choice([str(number), str(number), "0%d" % number, "A", "B", "AB", "", "%06d" % number, "x"])


def drawn_line(draw):
    stage = draw.randint(1, 5) if draw.random() < 0.9 else draw.randint(0, 10)
    if draw.random() < 0.08:
        names = ["ROUNDS", "GAP", "LEVELS", "TOPICS", "RELEASE", "ROUND", "", "SIZE", "SEED"]
        return " ".join([draw.choice(names)] + [drawn_word(draw) for turn in range(draw.randint(0, 4))])
    return draw.choice([
        "ROUNDS %d" % draw.randint(2, 9), "OFFER %d" % draw.randint(1, 3), "GAP %d" % draw.randint(0, 3),
        "UNLIKE %d" % draw.randint(0, 1), "SIZE %d" % draw.choice([2, 4]), "SEED %d" % draw.randint(0, 99999),
        "LEVELS %d %d %d" % (stage, draw.randint(1, 3), draw.randint(3, 5)), "  TOPICS %d A  B C" % stage,
        "TOPICS %d C D E" % stage, "RELEASE %d %d" % (stage, draw.randint(0, 60)), "RELEASE %d 50" % stage, ""])


def drawn_rules(draw):
    lines = {}
    for turn in range(draw.randint(0, 12)):
        line = drawn_line(draw)
        lines[" ".join(line.split()[:2]) if draw.random() < 0.95 else turn] = line
    text = support.codes("\n".join(lines.values()))
    if draw.random() < 0.03:
        text = text + [draw.choice([-1, 256, 200])]
    return text


def drawn_topic(draw):
    return support.codes(draw.choice("ABCDE") if draw.random() < 0.97 else draw.choice(["", "a", "ABCDEFGHI", "A B"]))


def drawn_text(draw):
    return [drawn_number(draw, 0, 255)] * draw.choice([0, 1, 2]) if draw.random() < 0.97 else [65] * draw.randint(99, 102)


def drawn_call(draw):
    """The name of a method of the second house, and what it is handed."""
    name = draw.choice(["shown", "strike", "restore", "choose", "choose", "choose", "choose", "appeal", "appeal", "appeal",
                        "undo", "set_now", "see", "see", "motion", "rules"])
    if name == "rules":
        return name, [drawn_rules(draw)]
    if name == "motion":
        return name, [drawn_number(draw, 1, 5), drawn_topic(draw), drawn_text(draw)]
    if name in ("strike", "restore"):
        return name, [drawn_number(draw, 1, 12)]
    if name == "appeal":
        return name, [drawn_number(draw, 1, 4), drawn_number(draw, 1, 14)]
    if name == "set_now":
        return name, [drawn_number(draw, 0, 70)]
    if name == "see":
        zone = drawn_number(draw, -900, 900)
        return name, [zone, zone + draw.randint(-5, 70) if draw.random() < 0.9 else drawn_number(draw, -1000, 201000)]
    return name, []


def drawn_line_of_calls(draw):
    calls = [("rules", [drawn_rules(draw)]) for turn in range(draw.randint(0, 2))]
    calls += [("motion", [draw.randint(1, 5), drawn_topic(draw), drawn_text(draw)]) for turn in range(draw.randint(3, 16))]
    calls += [drawn_call(draw) for turn in range(draw.randint(5, 60))]
    return calls


BUILDERS = {"rules": support.rules, "shown": support.shown, "motion": support.motion, "strike": support.strike,
            "restore": support.restore, "choose": support.choose, "appeal": support.appeal, "undo": support.undo,
            "set_now": support.now, "see": support.see}


class AgainstTheSecond(unittest.TestCase):
    def test_lines_of_calls(self):
        draw = random.Random(2026)
        met = {}
        for turn in range(LINES):
            calls = drawn_line_of_calls(draw)
            second = Second()
            expected = [getattr(second, name)(*handed) for name, handed in calls]
            answered = support.ask(*[BUILDERS[name](*handed) for name, handed in calls])
            self.assertEqual(answered, expected, calls)
            for (name, handed), answer in zip(calls, expected):
                met.setdefault(name, set()).add(min(answer[0], 1))
        self.check_met(met)

    def check_met(self, met):
        """A comparison in which some refusal never came up would tell little."""
        refusals = {"rules": {-1, -3}, "shown": set(), "motion": {-1, -4}, "strike": {-6, -7}, "restore": {-6, -7},
                    "choose": {-7, -9}, "appeal": {-4, -6, -7}, "undo": {-4, -6}, "set_now": {-1}, "see": {-1, -4}}
        for name, numbers in refusals.items():
            self.assertEqual({number for number in met[name] if number < 0}, numbers, name)
            self.assertTrue(met[name] & {0, 1}, name)
