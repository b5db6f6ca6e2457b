"""What the tests share: calls by name, and their answers one by one."""

import unittest

from motionbank.house import answers

HUGE = 10 ** 18


def codes(text):
    return list(text.encode("ascii")) if isinstance(text, str) else list(text)


def row(text):
    numbers = codes(text)
    return [len(numbers)] + numbers


def clear():
    return [0]


def rules(text=""):
    return [1] + row(text)


def shown():
    return [2]


def motion(level=1, topic="A", text=""):
    return [3, level] + row(topic) + row(text)


def strike(number):
    return [4, number]


def restore(number):
    return [5, number]


def choose():
    return [6]


def appeal(stage, number):
    return [7, stage, number]


def undo():
    return [8]


def now(minute):
    return [9, minute]


def see(zone, minute):
    return [10, zone, minute]


def parted_answers(given):
    parts = []
    place = 0
    while place < len(given):
        end = place + 1 + given[place]
        parts.append(given[place + 1:end])
        place = end
    return parts


def ask(*calls):
    return parted_answers(answers([number for call in calls for number in call]))


def last(*calls):
    return ask(*calls)[-1]


def topics(names, level=1):
    """A motion for each topic of the blank-parted names."""
    return [motion(level, name) for name in names.split()]


def lines_shown(answer):
    """The lines of an answer of shown, as texts."""
    lines = []
    place = 1
    while place < len(answer):
        end = place + 1 + answer[place]
        lines.append(bytes(answer[place + 1:end]).decode("ascii"))
        place = end
    assert len(lines) == answer[0]
    return lines


def rounds_seen(answer):
    """By round its motions, from an answer of see."""
    seen = {}
    place = 1
    while place < len(answer):
        end = place + 1 + answer[place]
        seen[answer[place + 1]] = answer[place + 2:end]
        place = end
    assert len(seen) == answer[0]
    return seen


def rounds_at_last(*calls):
    """All rounds as they stand behind these calls."""
    return rounds_seen(last(*calls, now(200000), see(0, 200000)))


# Together they tell all that a house keeps: the first ones tell now, by what hasn't come.
PROBE = [see(0, minute) for minute in (1, 2, 6, 7, 8, 30, 59, 60, 61, 99, 100, 101, 199999, 200000)]
PROBE += [shown(), choose(), now(150), see(0, 150), see(0, 151), undo(), motion(1, "PROBE", "p"), strike(1), strike(2),
          restore(3), choose(), now(200000), see(0, 200000)]


class HouseCase(unittest.TestCase):
    def check(self, calls, *expected):
        """The last answers of these calls are the expected ones."""
        self.assertEqual(ask(*calls)[-len(expected):], [list(answer) for answer in expected])

    def check_refused(self, before, call, number):
        """The call is refused by that number, and all behind it is as without it."""
        with self.subTest(call=call, number=number):
            answered = ask(*before, call, *PROBE)
            self.assertEqual(answered[len(before)], [number])
            self.assertEqual(answered[len(before) + 1:], ask(*before, *PROBE)[len(before):])
