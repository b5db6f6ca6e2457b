"""The calls even and ways: how far from even, and exact chances."""

import itertools
import math

from tests.support import (HUGE, HouseCase, ask, both, choose, clear, debate, even, hall, last, motion, order, result, rules,
                           strike, ways)

TWO = [rules("SIZE 2")]
FOUR = [rules("SIZE 4")]

# The orders of four teams by the first half's points.
PLACES = {5: [0, 1, 2, 3], 4: [0, 2, 1, 3], 3: [0, 2, 3, 1], 2: [2, 0, 3, 1], 1: [2, 3, 0, 1]}
PLACES_OF_TWO = {1: [0, 1], 0: [1, 0]}


def decimal(number):
    return [len(str(number))] + [ord(digit) for digit in str(number)]


def counted(size, rooms):
    """All ways of the rooms, one by one, as the first half's points."""
    halves = []
    for places in itertools.permutations(range(size)):
        points = {team: size - 1 - at for at, team in enumerate(places)}
        halves.append(sum(points[team] for team in range(size // 2)))
    return [sum(taken) for taken in itertools.product(halves, repeat=rooms)]


def asked(before, calls):
    """The answers of ways, at most 15 of them in a line."""
    given = []
    for start in range(0, len(calls), 15):
        given += ask(*before, *calls[start:start + 15])[len(before):]
    return given


class Ways(HouseCase):
    def test_counted_one_by_one(self):
        for size, before in ((2, TWO), (4, FOUR)):
            for rooms in range(4):
                every = counted(size, rooms)
                whole = rooms * (size * (size - 1) // 2)
                calls = [ways(rooms, points) for points in range(whole + 8)]
                for points, answer in enumerate(asked(before, calls)):
                    far = abs(2 * points - whole)
                    further = len([got for got in every if abs(2 * got - whole) >= far])
                    with self.subTest(size=size, rooms=rooms, points=points):
                        self.assertEqual(answer, [far] + decimal(every.count(points)) + decimal(further) + decimal(len(every)))

    def test_without_rooms(self):
        for before in (TWO, FOUR):
            self.check(before + [ways(0, 0), ways(0, 1), ways(0, 40)], [0] + decimal(1) * 3,
                       [2] + decimal(0) * 2 + decimal(1), [80] + decimal(0) * 2 + decimal(1))

    def test_one_room(self):
        self.check(TWO + [ways(1, 0), ways(1, 1), ways(1, 2)], [1] + decimal(1) + decimal(2) * 2,
                   [1] + decimal(1) + decimal(2) * 2, [3] + decimal(0) * 2 + decimal(2))
        self.check(FOUR + [ways(1, points) for points in range(8)],
                   [6] + decimal(0) * 2 + decimal(24), [4] + decimal(4) + decimal(8) + decimal(24),
                   [2] + decimal(4) + decimal(16) + decimal(24), [0] + decimal(8) + decimal(24) * 2,
                   [2] + decimal(4) + decimal(16) + decimal(24), [4] + decimal(4) + decimal(8) + decimal(24),
                   [6] + decimal(0) * 2 + decimal(24), [8] + decimal(0) * 2 + decimal(24))

    def test_many_rooms_of_two(self):
        for rooms in (7, 39, 40):
            calls = [ways(rooms, points) for points in range(41)]
            for points, answer in enumerate(asked(TWO, calls)):
                far = abs(2 * points - rooms)
                further = sum(math.comb(rooms, got) for got in range(rooms + 1) if abs(2 * got - rooms) >= far)
                self.assertEqual(answer, [far] + decimal(math.comb(rooms, points)) + decimal(further) + decimal(2 ** rooms))

    def test_many_rooms_of_four(self):
        for rooms in (8, 39, 40):
            # 4 times x + x^2 + 2x^3 + x^4 + x^5 to the power of rooms, with a great number for x.
            packed = ((1 << 300) + (1 << 600) + (2 << 900) + (1 << 1200) + (1 << 1500)) ** rooms
            just = [4 ** rooms * ((packed >> 300 * points) % (1 << 300)) for points in range(241)]
            calls = [ways(rooms, points) for points in range(241)]
            for points, answer in enumerate(asked(FOUR, calls)):
                far = abs(2 * points - 6 * rooms)
                further = sum(just[got] for got in range(6 * rooms + 1) if abs(2 * got - 6 * rooms) >= far)
                self.assertEqual(answer, [far] + decimal(just[points]) + decimal(further) + decimal(24 ** rooms))

    def test_to_the_last_digit(self):
        # Reckoned apart, by another program.
        every = decimal(16160309291565740657279117440900958232530295124578533376)
        just = decimal(787227516050752729652651350851259156827634741723267072)
        self.check(FOUR + [ways(40, 120)], [0] + just + every * 2)
        just = decimal(39191912263965369788630900267740779616955293396631552)
        further = decimal(267581158570796816079829589523820535916186202070319104)
        self.check(FOUR + [ways(40, 100), ways(40, 140)], [40] + just + further + every, [40] + just + further + every)
        further = decimal(2 * 1208925819614629174706176)
        self.check(FOUR + [ways(40, 40)], [160] + decimal(1208925819614629174706176) + further + every)
        self.check(TWO + [ways(40, 20)], [0] + decimal(137846528820) + decimal(1099511627776) * 2)

    def test_the_range_of_rooms(self):
        for before in (TWO, FOUR):
            self.assertEqual(last(*before, ways(40, 0))[0], 40 if before == TWO else 240)
            for rooms in (-1, 41, HUGE, -HUGE):
                self.check_refused(before, ways(rooms, 0), -1)

    def test_the_range_of_points(self):
        for before, greatest in ((TWO, 40), (FOUR, 240)):
            for rooms in (0, 1, 40):
                self.assertEqual(last(*before, ways(rooms, greatest))[0], abs(2 * greatest - rooms * greatest // 40))
                for points in (-1, greatest + 1, HUGE, -HUGE):
                    self.check_refused(before, ways(rooms, points), -1)
        self.check_refused(TWO, ways(40, 240), -1)
        self.check_refused(FOUR, ways(41, 241), -1)

    def test_at_the_beginning_a_room_has_four(self):
        self.assertEqual(last(ways(2, 3)), last(*FOUR, ways(2, 3)))
        self.assertEqual(last(*TWO, clear(), ways(2, 3)), last(*FOUR, ways(2, 3)))


class Even(HouseCase):
    def told(self, offer, rooms, size=4):
        """A hall of which each room debates the motion 1, with that many points of the first half each."""
        calls = hall(offer, 1, "SIZE %d" % size)
        numbers = list(range(1, offer + 1))
        for room, points in enumerate(rooms):
            calls += both(1, room, numbers, numbers)
            calls.append(result(1, room, PLACES[points] if size == 4 else PLACES_OF_TWO[points]))
        return calls

    def check_even(self, size, rooms):
        every = counted(size, len(rooms))
        whole = len(rooms) * (size * (size - 1) // 2)
        further = len([got for got in every if abs(2 * got - whole) >= abs(2 * sum(rooms) - whole)])
        answer = [len(rooms), sum(rooms), whole - sum(rooms)] + decimal(further) + decimal(len(every))
        with self.subTest(size=size, rooms=rooms):
            self.check(self.told(3, rooms, size) + [even(1)], answer)

    def test_without_rooms(self):
        for before in ([motion()], TWO + [motion()], hall(), hall(3, 2, "SIZE 2")):
            self.check(before + [even(1)], [0, 0, 0] + decimal(1) * 2)

    def test_one_room(self):
        for points in PLACES:
            self.check_even(4, [points])
        for points in PLACES_OF_TWO:
            self.check_even(2, [points])

    def test_several_rooms(self):
        for rooms in itertools.combinations_with_replacement(PLACES, 2):
            self.check_even(4, list(rooms))
        self.check_even(4, [5, 1, 4])
        self.check_even(4, [1, 1, 1])
        for rooms in itertools.product(PLACES_OF_TWO, repeat=3):
            self.check_even(2, list(rooms))
        self.check_even(2, [1, 1, 0, 1, 1, 1, 0])

    def test_thirty_rooms(self):
        self.check(self.told(1, [5] * 30) + [even(1)], [30, 150, 30] + decimal(2 * 4 ** 30) + decimal(24 ** 30))
        self.check(self.told(1, [3] * 30) + [even(1)], [30, 90, 90] + decimal(24 ** 30) * 2)
        self.check(self.told(1, [1] * 30, 2) + [even(1)], [30, 30, 0] + decimal(2) + decimal(2 ** 30))
        self.assertEqual(decimal(24 ** 30), decimal(254880876153761202627773829926908776677376))

    def test_it_is_as_ways_tell(self):
        before = self.told(2, [5, 5, 4, 2, 3, 5, 1, 4])
        by_ways = last(*before, ways(8, 29))
        self.check(before + [even(1)], [8, 29, 19] + by_ways[2 + by_ways[1]:])

    def test_only_rooms_in_which_it_was_debated(self):
        before = hall() + both(1, 0, [1, 2, 3], [1, 2, 3]) + both(1, 1, [2, 1, 3], [2, 1, 3]) + both(1, 2, [1, 3, 2], [3, 2, 1])
        before += [result(1, 0, PLACES[5]), result(1, 1, PLACES[4]), result(1, 2, PLACES[2])]
        self.assertEqual([last(*before, even(number))[:3] for number in (1, 2, 3)], [[1, 5, 1], [1, 4, 2], [1, 2, 4]])

    def test_only_rooms_with_a_result(self):
        before = hall() + both(1, 0, [1, 2, 3], [1, 2, 3]) + both(1, 1, [1, 2, 3], [1, 2, 3]) + [order(1, 2, 0, [1, 2, 3])]
        self.check(before + [even(1)], [0, 0, 0] + decimal(1) * 2)
        self.check(before + [result(1, 1, PLACES[5]), even(1)], [1, 5, 1] + decimal(8) + decimal(24))
        self.check(before + [result(1, 2, PLACES[5]), even(1)], [-5], [0, 0, 0] + decimal(1) * 2)
        self.check(before + [result(1, 1, [0, 1, 2]), even(1)], [-1], [0, 0, 0] + decimal(1) * 2)

    def test_a_result_told_again(self):
        before = self.told(3, [5, 4])
        self.assertEqual(last(*before, result(1, 0, PLACES[1]), even(1)), last(*self.told(3, [1, 4]), even(1)))
        self.assertEqual(last(*before, result(1, 0, PLACES[1]), even(1))[:3], [2, 5, 7])

    def test_rooms_of_several_rounds(self):
        before = hall(2, 3)
        for stage, points in ((1, 5), (2, 4), (3, 1)):
            numbers = [2 * stage - 1, 2 * stage]
            before += both(stage, 7, numbers, numbers) + [result(stage, 7, PLACES[points])]
            before += both(stage, 8, numbers, numbers) + [result(stage, 8, PLACES[3])]
        self.assertEqual([last(*before, even(number))[:3] for number in (1, 2, 3, 4, 5, 6)],
                         [[2, 8, 4], [0, 0, 0], [2, 7, 5], [0, 0, 0], [2, 4, 8], [0, 0, 0]])

    def test_the_coin_of_each_room_counts(self):
        # In the rooms 0 to 7 the coin tells, and it isn't the same in all of them.
        before = hall()
        for room in range(8):
            before += both(1, room, [1, 2, 3], [2, 1, 3]) + [result(1, room, PLACES[5])]
        debated = [last(*before, debate(1, room))[0] for room in range(8)]
        self.assertEqual(set(debated), {1, 2})
        for number in (1, 2, 3):
            self.assertEqual(last(*before, even(number))[:2], [debated.count(number), 5 * debated.count(number)])

    def test_no_such_motion(self):
        for number in (0, 4, 41, -1, HUGE, -HUGE):
            self.check_refused(self.told(3, [5]), even(number), -6)
        self.check_refused([], even(1), -6)
        self.check_refused(self.told(3, [5]) + [clear()], even(1), -6)

    def test_asking_changes_nothing(self):
        answered = ask(*self.told(3, [5, 2]), even(1), ways(3, 4), even(1), even(2), even(1))
        self.assertEqual(answered[-1], answered[-3])
        self.assertEqual(answered[-1], answered[-5])

    def test_struck_out_it_keeps_its_rooms(self):
        before = self.told(3, [5, 2])
        self.assertEqual(last(*before, strike(1), even(1)), last(*before, even(1)))
        self.check(before + [choose(), even(1)], [-7], last(*before, even(1)))
