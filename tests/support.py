"""What the tests share: calls by name, and their answers one by one."""

import unittest

from motionbank.house import answers

HUGE = 10 ** 18


def codes(text):
    return list(text.encode("ascii")) if isinstance(text, str) else list(text)


def row(text):
    numbers = codes(text)
    return [len(numbers)] + numbers


def clear():
    return [0]


def rules(text=""):
    return [1] + row(text)


def shown():
    return [2]


def motion(level=1, topic="A", text=""):
    return [3, level] + row(topic) + row(text)


def strike(number):
    return [4, number]


def restore(number):
    return [5, number]


def choose():
    return [6]


def appeal(stage, number):
    return [7, stage, number]


def undo():
    return [8]


def now(minute):
    return [9, minute]


def see(zone, minute):
    return [10, zone, minute]


def read(stage, place, zone, minute):
    return [11, stage, place, zone, minute]


def order(stage, room, side, motions):
    return [12, stage, room, side] + row(motions)


def debate(stage, room):
    return [13, stage, room]


def result(stage, room, places):
    return [14, stage, room] + row(places)


def offered(stage):
    return [15, stage]


def may(stage):
    return [16, stage]


def told(number):
    return [17, number]


def even(number):
    return [18, number]


def ways(rooms, points):
    return [19, rooms, points]


def lot(stage):
    return [20, stage]


def counts():
    return [21]


def parted_answers(given):
    parts = []
    place = 0
    while place < len(given):
        end = place + 1 + given[place]
        parts.append(given[place + 1:end])
        place = end
    return parts


def ask(*calls):
    return parted_answers(answers([number for call in calls for number in call]))


def last(*calls):
    return ask(*calls)[-1]


def topics(names, level=1):
    """A motion for each topic of the blank-parted names."""
    return [motion(level, name) for name in names.split()]


def lines_shown(answer):
    """The lines of an answer of shown, as texts."""
    lines = []
    place = 1
    while place < len(answer):
        end = place + 1 + answer[place]
        lines.append(bytes(answer[place + 1:end]).decode("ascii"))
        place = end
    assert len(lines) == answer[0]
    return lines


def rounds_seen(answer):
    """By round its motions, from an answer of see."""
    seen = {}
    place = 1
    while place < len(answer):
        end = place + 1 + answer[place]
        seen[answer[place + 1]] = answer[place + 2:end]
        place = end
    assert len(seen) == answer[0]
    return seen


def rounds_at_last(*calls):
    """All rounds as they stand behind these calls."""
    return rounds_seen(last(*calls, now(200000), see(0, 200000)))


def hall(offer=3, rounds=1, text=""):
    """Rounds that are chosen and released; round 1 has the motions 1 to offer, round 2 the next ones, and so on."""
    lines = ["OFFER %d" % offer, "ROUNDS 9", text]
    motions = []
    for stage in range(rounds):
        names = [chr(65 + stage) + chr(65 + place) for place in range(offer)]
        lines.append("TOPICS %d %s" % (stage + 1, " ".join(names)))
        motions += topics(" ".join(names))
    return [rules("\n".join(lines))] + motions + [choose()] * rounds


def both(stage, room, first, second):
    """Both sides' orders of a room."""
    return [order(stage, room, 0, first), order(stage, room, 1, second)]


def coin_by_words(seed, stage, room):
    """The coin, straight from the words of the document."""
    state = (1103515245 * (100 * seed + 10000000 * stage + room) + 12345) % 2 ** 31
    return state // 65536 % 2


# Together they tell all that a house keeps: those that only ask, then some by which the rest shows (the first of these
# tell now, by what hasn't come).
ASKING = [counts()] + [call(number) for call in (offered, may) for number in (1, 2, 3)]
ASKING += [told(number) for number in (1, 2, 3, 4)] + [even(number) for number in (1, 2, 3)]
ASKING += [debate(stage, room) for stage in (1, 2) for room in (0, 1, 2, 29, 30, 99)]
PROBE = ASKING + [see(0, minute) for minute in (1, 2, 6, 7, 8, 30, 59, 60, 61, 99, 100, 101, 199999, 200000)]
PROBE += [shown(), choose(), now(150), see(0, 150), see(0, 151), undo(), motion(1, "PROBE", "p"), strike(1), strike(2),
          restore(3), choose(), now(200000), see(0, 200000)]


class HouseCase(unittest.TestCase):
    def check(self, calls, *expected):
        """The last answers of these calls are the expected ones."""
        self.assertEqual(ask(*calls)[-len(expected):], [list(answer) for answer in expected])

    def check_refused(self, before, call, number, behind=()):
        """The call is refused by that number, and all behind it is as without it."""
        with self.subTest(call=call, number=number):
            answered = ask(*before, call, *behind, *PROBE)
            self.assertEqual(answered[len(before)], [number])
            self.assertEqual(answered[len(before) + 1:], ask(*before, *behind, *PROBE)[len(before):])
