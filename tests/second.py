"""A second house in other code, with the same reading of the document, to hold the package's answers against."""

import collections
import itertools
import re

SETTINGS = {"ROUNDS": ("[1-9]", 5), "OFFER": ("[1-5]", 3), "GAP": ("[0-9]", 1), "UNLIKE": ("[01]", 1),
            "SIZE": ("[24]", 4), "SEED": ("[0-9]{1,5}", 0)}
ROUND_LINES = {"LEVELS": "[1-9] [1-5] [1-5]", "TOPICS": "[1-9]( [A-Z]{1,8})+", "RELEASE": "[1-9] [0-9]{1,5}"}


def plain(word):
    """A number of one to five digits without zeros in front; any other word as it is."""
    return str(int(word)) if re.fullmatch("[0-9]{1,5}", word) else word


def rest_is_as_told(name, rest):
    pattern = SETTINGS[name][0] if name in SETTINGS else ROUND_LINES[name]
    if not re.fullmatch(pattern, " ".join(rest)):
        return False
    if name == "LEVELS":
        return rest[1] <= rest[2]
    return name != "TOPICS" or len(set(rest[1:])) == len(rest[1:])


class Second:
    def __init__(self):
        self.lines, self.motions, self.rounds, self.now, self.out = [], [], [], 0, set()
        self.orders, self.results = {}, {}

    def value(self, name):
        return next((int(line[1]) for line in self.lines if line[0] == name), SETTINGS[name][1])

    def of_round(self, name, stage):
        return next((line[2:] for line in self.lines if line[:2] == [name, str(stage)]), None)

    def release(self, stage):
        return int((self.of_round("RELEASE", stage) or ["0"])[0])

    def rules(self, text):
        if len(text) > 1500 or any(number not in range(256) for number in text):
            return [-1]
        if self.motions or self.rounds or self.now:
            return [-3]
        lines = []
        rows = bytes(text).decode("latin-1").split("\n")
        for place, written in enumerate(rows, 1):
            words = [plain(word) for word in written.split(" ") if word]
            if not words:
                continue
            if words[0] not in SETTINGS and words[0] not in ROUND_LINES:
                return [1, 1, place]
            if not rest_is_as_told(words[0], words[1:]):
                return [1, 2, place]
            key = words[:1] if words[0] in SETTINGS else words[:2]
            if any(line[:len(key)] == key for line in lines):
                return [1, 3, place]
            lines.append(words)
        rounds = next((int(line[1]) for line in lines if line[0] == "ROUNDS"), 5)
        if any(line[0] in ROUND_LINES and int(line[1]) > rounds for line in lines):
            return [1, 4, len(rows) + 1]
        self.lines = lines
        return [0, self.value("ROUNDS"), self.value("OFFER"), self.value("SIZE")]

    def shown(self):
        lines = ["%s %d" % (name, self.value(name)) for name in SETTINGS]
        lines += [" ".join(line) for name in ROUND_LINES for line in self.lines if line[0] == name]
        return [len(lines)] + [number for line in lines for number in [len(line), *line.encode("latin-1")]]

    def motion(self, level, topic, text):
        right = level in range(1, 6) and 1 <= len(topic) <= 8 and all(number in range(65, 91) for number in topic)
        if not right or len(text) > 100 or any(number not in range(256) for number in text):
            return [-1]
        if len(self.motions) >= 40 or self.rounds:
            return [-9 if len(self.motions) >= 40 else -4]
        self.motions.append((level, bytes(topic).decode("ascii"), text))
        return [len(self.motions)]

    def strike(self, number):
        if number not in range(1, len(self.motions) + 1) or number in self.out:
            return [-7 if number in self.out else -6]
        self.out.add(number)
        return [len(self.out)]

    def restore(self, number):
        if number not in self.out:
            return [-7 if number in range(1, len(self.motions) + 1) else -6]
        self.out.discard(number)
        return [len(self.out)]

    def lot(self, stage):
        left, order, state = [number + 1 for number in range(len(self.motions))], [], 100 * self.value("SEED") + stage
        while left:
            state = (1103515245 * state + 12345) & 0x7FFFFFFF
            order.append(left[(state >> 16) % len(left)])
            left.remove(order[-1])
        return order

    def topic(self, number):
        return self.motions[number - 1][1]

    def may(self, number, stage):
        low, high = self.of_round("LEVELS", stage) or ("1", "5")
        allowed = self.of_round("TOPICS", stage)
        if number in self.out or not int(low) <= self.motions[number - 1][0] <= int(high):
            return False
        for at, offered in enumerate(self.rounds, 1):
            near = 1 <= stage - at <= self.value("GAP")
            if at < stage and (number in offered or near and self.topic(number) in map(self.topic, offered)):
                return False
        return allowed is None or self.topic(number) in allowed

    def choose(self):
        stage, picked = len(self.rounds) + 1, []
        if stage > self.value("ROUNDS"):
            return [-9]
        for number in self.lot(stage):
            alike = self.value("UNLIKE") == 1 and self.topic(number) in map(self.topic, picked)
            if self.may(number, stage) and not alike:
                picked.append(number)
        if len(picked) < self.value("OFFER"):
            return [-7]
        self.rounds.append(picked[:self.value("OFFER")])
        return [stage]

    def may_replace(self, number, stage, replaced):
        if not self.may(number, stage) or any(number in offered for offered in self.rounds):
            return False
        behind = [other for offered in self.rounds[stage:stage + self.value("GAP")] for other in offered]
        if self.value("UNLIKE") == 1:
            behind += [other for other in self.rounds[stage - 1] if other != replaced]
        return self.topic(number) not in map(self.topic, behind)

    def appeal(self, stage, number):
        if stage not in range(1, len(self.rounds) + 1):
            return [-6]
        if self.now >= self.release(stage):
            return [-4]
        if number not in self.rounds[stage - 1]:
            return [-6]
        for other in self.lot(stage):
            if self.may_replace(other, stage, number):
                self.rounds[stage - 1] = [other if old == number else old for old in self.rounds[stage - 1]]
                return [0]
        return [-7]

    def undo(self):
        if not self.rounds or self.now >= self.release(len(self.rounds)):
            return [-4 if self.rounds else -6]
        self.rounds = self.rounds[:-1]
        return [len(self.rounds)]

    def set_now(self, minute):
        if minute < self.now or minute > 200000:
            return [-1]
        self.now = minute
        return [sum(1 for at in range(len(self.rounds)) if self.release(at + 1) <= minute)]

    def see(self, zone, minute):
        if abs(zone) > 900 or minute < -1000 or minute > 201000:
            return [-1]
        if minute > self.now + zone:
            return [-4]
        seen = [[at] + offered for at, offered in enumerate(self.rounds, 1) if self.release(at) + zone <= minute]
        return [len(seen)] + [number for numbers in seen for number in [len(numbers)] + numbers]

    def read(self, stage, place, zone, minute):
        if stage not in range(1, len(self.rounds) + 1):
            return [-6]
        if abs(zone) > 900 or minute < -1000 or minute > 201000:
            return [-1]
        if minute > self.now + zone or minute < self.release(stage) + zone:
            return [-4]
        if place not in range(len(self.rounds[stage - 1])):
            return [-6]
        number = self.rounds[stage - 1][place]
        level, topic, text = self.motions[number - 1]
        return [number, level, len(topic), *topic.encode("ascii"), len(text), *text]

    def rooms(self, stage):
        return {room for at, room, side in self.orders if at == stage}

    def order(self, stage, room, side, numbers):
        if stage not in range(1, len(self.rounds) + 1):
            return [-6]
        if room not in range(100) or side not in (0, 1) or len(numbers) > 5 or set(numbers) - set(range(100)):
            return [-1]
        if self.release(stage) > self.now:
            return [-4]
        if tuple(numbers) not in itertools.permutations(self.rounds[stage - 1]):
            return [-7]
        if len(self.rooms(stage) | {room}) > 30:
            return [-9]
        if (stage, room) in self.results:
            return [-5]
        self.orders[stage, room, side] = list(numbers)
        return [0 if self.lacks(stage, room) else self.debated(stage, room)[0]]

    def lacks(self, stage, room):
        """-6 if there's no such room, -5 if an order lacks, else 0."""
        there = [side for side in (0, 1) if (stage, room, side) in self.orders]
        return (-6, -5, 0)[len(there)]

    def debated(self, stage, room):
        """The motion that's debated, the coin, those left."""
        first, second = (self.orders[stage, room, side] for side in (0, 1))
        coin = (((100 * self.value("SEED") + 10000000 * stage + room) * 1103515245 + 12345) & 0x7FFFFFFF) >> 16 & 1
        left = first[:max(len(first) - 1, 1)]
        if len(left) > 1 and second[-1] in left:
            left.remove(second[-1])
        best = sorted(left, key=(first, second)[coin].index)
        best.sort(key=lambda number: max(first.index(number), second.index(number)))
        best.sort(key=lambda number: first.index(number) + second.index(number))
        return best[0], coin, left

    def debate(self, stage, room):
        if self.lacks(stage, room):
            return [self.lacks(stage, room)]
        motion, coin, left = self.debated(stage, room)
        return [motion, coin, len(left)] + left

    def result(self, stage, room, places):
        if self.lacks(stage, room):
            return [self.lacks(stage, room)]
        if tuple(places) not in itertools.permutations(range(self.value("SIZE"))):
            return [-1]
        self.results[stage, room] = half(places)
        return [half(places)]

    def offered(self, stage):
        if stage not in range(1, len(self.rounds) + 1):
            return [-6]
        numbers = self.rounds[stage - 1]
        return [len(numbers), self.release(stage), len(self.rooms(stage)), len(numbers)] + numbers

    def may_be(self, stage):
        if stage not in range(1, len(self.rounds) + 2):
            return [-6]
        numbers = [number for number in self.lot(stage) if self.may(number, stage)]
        return [len(numbers), len(numbers)] + numbers

    def told(self, number):
        if number not in range(1, len(self.motions) + 1):
            return [-6]
        level, topic, text = self.motions[number - 1]
        stage = next((at for at, numbers in enumerate(self.rounds, 1) if number in numbers), 0)
        return [level, int(number in self.out), stage, len(topic), *topic.encode("ascii")]

    def even(self, number):
        if number not in range(1, len(self.motions) + 1):
            return [-6]
        points = [got for key, got in self.results.items() if self.debated(*key)[0] == number]
        size = self.value("SIZE")
        every = chances(size, len(points))
        rest = len(points) * (size * (size - 1) // 2) - sum(points)
        return [len(points), sum(points), rest] + decimal(further(every, abs(sum(points) - rest))) + decimal(sum(every))

    def ways(self, rooms, points):
        size = self.value("SIZE")
        if rooms not in range(41) or points not in range(40 * (size * (size - 1) // 2) + 1):
            return [-1]
        every = chances(size, rooms)
        far = abs(points - (len(every) - 1 - points))
        just = every[points] if points < len(every) else 0
        return [far] + decimal(just) + decimal(further(every, far)) + decimal(sum(every))

    def drawn(self, stage):
        return [len(self.motions)] * 2 + self.lot(stage) if 1 <= stage <= 9 else [-1]

    def counts(self):
        rooms = {key[:2] for key in self.orders}
        return [len(self.motions), len(self.out), len(self.rounds), self.now, len(rooms)]


def half(places):
    """The points of the teams at the places of the first half."""
    got = dict(zip(places, reversed(range(len(places)))))
    return sum(got[place] for place in range(len(places) // 2))


def chances(size, rooms):
    """By the first half's points the ways, out of one great number's digits to the base 2^200."""
    one = collections.Counter(half(places) for places in itertools.permutations(range(size)))
    packed = sum(count << 200 * points for points, count in one.items()) ** rooms
    return [packed >> 200 * points & 2 ** 200 - 1 for points in range(rooms * size * (size - 1) // 2 + 1)]


def further(every, far):
    return sum(count for points, count in enumerate(every) if abs(2 * points - len(every) + 1) >= far)


def decimal(number):
    return [len(str(number)), *str(number).encode("ascii")]
