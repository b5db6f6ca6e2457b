"""The calls order, debate and result."""

import itertools

from tests.second import Second
from tests.support import (HUGE, HouseCase, appeal, ask, both, choose, clear, coin_by_words, counts, debate, even, hall, last,
                           motion, now, offered, order, restore, result, rules, strike, topics, undo)

# A round of the motions 1 to 3 that is released at 60.
LATER = [rules("OFFER 3\nRELEASE 1 60")] + topics("A B C") + [choose()]


def filled(rooms, stage=1):
    """First sides' orders of the rooms 0, 1, 2 .. as many as told."""
    return [order(stage, room, 0, [1, 2, 3]) for room in range(rooms)]


class Order(HouseCase):
    def test_0_till_both_orders_are_there(self):
        self.check(hall() + both(1, 0, [1, 2, 3], [1, 3, 2]), [0], [1])
        self.check(hall() + [order(1, 0, 1, [1, 2, 3]), order(1, 0, 0, [1, 3, 2])], [0], [1])
        self.check(hall() + [order(1, 0, 0, [1, 2, 3]), order(1, 0, 0, [1, 3, 2])], [0], [0])
        self.check(hall() + [order(1, 0, 0, [1, 2, 3]), order(1, 1, 1, [1, 3, 2])], [0], [0])

    def test_rooms_from_0_to_99(self):
        self.check(hall() + both(1, 0, [1, 2, 3], [1, 3, 2]) + both(1, 99, [3, 2, 1], [3, 1, 2]), [0], [1], [0], [3])

    def test_told_again_it_counts_in_place_of_the_one_before(self):
        before = hall() + both(1, 7, [1, 2, 3], [1, 2, 3])
        self.check(before + [order(1, 7, 0, [3, 1, 2]), debate(1, 7)], [1], [1, coin_by_words(0, 1, 7), 1, 1])
        self.check(before + [order(1, 7, 0, [2, 3, 1]), debate(1, 7)], [2], [2, coin_by_words(0, 1, 7), 1, 2])
        self.check(before + [order(1, 7, 1, [3, 2, 1]), debate(1, 7)], [2], [2, coin_by_words(0, 1, 7), 1, 2])
        self.check(before + [order(1, 7, 1, [3, 2, 1]), order(1, 7, 1, [1, 2, 3])], [2], [1])
        self.assertEqual(last(*before, order(1, 7, 1, [3, 2, 1]), offered(1))[:3], [3, 0, 1])

    def test_rounds_have_their_own_rooms(self):
        before = hall(2, 2) + both(1, 4, [1, 2], [1, 2])
        self.check(before + [order(2, 4, 1, [3, 4]), order(2, 4, 0, [4, 3])], [0], [4])
        self.check(before + [debate(2, 4)], [-6])

    def test_no_such_round(self):
        for stage in (0, 2, 9, -1, HUGE, -HUGE):
            self.check_refused(hall(), order(stage, 0, 0, [1, 2, 3]), -6)
        self.check_refused([], order(1, 0, 0, [1]), -6)
        self.check_refused(topics("A B C"), order(1, 0, 0, [1, 2, 3]), -6)

    def test_rooms_out_of_range(self):
        for room in (-1, 100, HUGE, -HUGE):
            self.check_refused(hall(), order(1, room, 0, [1, 2, 3]), -1)

    def test_sides_out_of_range(self):
        for side in (-1, 2, HUGE, -HUGE):
            self.check_refused(hall(), order(1, 0, side, [1, 2, 3]), -1)

    def test_how_many_numbers(self):
        self.check(hall(5) + [order(1, 0, 0, [5, 4, 3, 2, 1])], [0])
        self.check_refused(hall(5), order(1, 0, 0, [5, 4, 3, 2, 1, 1]), -1)
        self.check_refused(hall(), order(1, 0, 0, [1, 2, 3, 4, 5]), -7)
        self.check_refused(hall(), order(1, 0, 0, [1, 2, 3, 4, 5, 6]), -1)
        self.check_refused(hall(), order(1, 0, 0, [1, 2, 3] * 3 + [1]), -1)

    def test_numbers_of_0_and_99_are_no_motions_of_the_round(self):
        for number in (0, 99):
            for place in range(3):
                numbers = [1, 2, 3]
                numbers[place] = number
                self.check_refused(hall(), order(1, 0, 0, numbers), -7)

    def test_numbers_out_of_range(self):
        for number in (-1, 100, HUGE, -HUGE):
            for place in range(3):
                numbers = [1, 2, 3]
                numbers[place] = number
                self.check_refused(hall(), order(1, 0, 0, numbers), -1)

    def test_not_released(self):
        self.check_refused(LATER, order(1, 0, 0, [1, 2, 3]), -4)
        self.check_refused(LATER + [now(59)], order(1, 0, 0, [1, 2, 3]), -4)
        for minute in (60, 61, 200000):
            self.check(LATER + [now(minute), order(1, 0, 0, [1, 2, 3])], [0])

    def test_not_the_rounds_motions_each_once(self):
        for numbers in ([1, 2], [1, 2, 2], [3, 3, 3], [1, 2, 3, 3], [], [1], [1, 2, 4], [4, 5, 6], [1, 2, 3, 4]):
            self.check_refused(hall(3, 2), order(1, 0, 0, numbers), -7, [order(1, 0, 1, [3, 2, 1])])
        self.check(hall(3, 2) + [order(2, 0, 0, [1, 2, 3]), order(2, 0, 0, [6, 4, 5])], [-7], [0])

    def test_by_the_round_as_it_stands(self):
        before = [rules("OFFER 2\nRELEASE 1 60")] + topics("A B C") + [strike(3), choose(), strike(1), now(60)]
        self.check(before + [order(1, 0, 0, [1, 2])], [0])
        before = [rules("OFFER 2\nRELEASE 1 60")] + topics("A B C") + [strike(3), choose(), restore(3), appeal(1, 1), now(60)]
        self.check(before + [order(1, 0, 0, [1, 2]), order(1, 0, 0, [3, 2])], [-7], [0])

    def test_30_rooms_of_a_round(self):
        self.check(hall(3, 2) + filled(30) + [counts()], *[[0]] * 30, [6, 0, 2, 0, 30])
        for room in (30, 99):
            self.check_refused(hall() + filled(30), order(1, room, 0, [1, 2, 3]), -9)
            self.check_refused(hall() + filled(30), order(1, room, 1, [1, 2, 3]), -9)
        self.check(hall() + filled(29) + [order(1, 99, 1, [1, 2, 3]), order(1, 30, 0, [1, 2, 3])], [0], [-9])

    def test_a_room_that_is_there_when_there_are_30(self):
        self.check(hall() + filled(30) + [order(1, 29, 1, [1, 3, 2]), order(1, 0, 1, [1, 2, 3]), order(1, 0, 0, [2, 1, 3])],
                   [1], [1], [2 if coin_by_words(0, 1, 0) == 0 else 1])

    def test_each_round_has_30_rooms(self):
        before = hall(3, 2) + filled(30)
        self.check(before + [order(2, 30 + room, 0, [4, 5, 6]) for room in range(30)] + [counts(), order(2, 0, 0, [4, 5, 6])],
                   [6, 0, 2, 0, 60], [-9])

    def test_a_room_with_a_result(self):
        before = hall() + both(1, 5, [1, 2, 3], [1, 2, 3]) + [result(1, 5, [0, 1, 2, 3])]
        for side in (0, 1):
            self.check_refused(before, order(1, 5, side, [3, 2, 1]), -5, [debate(1, 5), even(1)])
            self.check_refused(before, order(1, 5, side, [1, 2, 3]), -5, [debate(1, 5), even(1)])
        self.check(before + [order(1, 4, 0, [3, 2, 1])], [0])
        self.check(hall() + both(1, 5, [1, 2, 3], [1, 2, 3]) + [result(1, 5, [0, 1, 2, 2]), order(1, 5, 0, [2, 3, 1])], [-1], [2])

    def test_the_first_refusal_counts(self):
        # Each one ahead of all that may be due with it, in turn.
        self.check_refused(LATER, order(2, 100, 2, [1, 1, 1, 1, 1, 100]), -6)
        self.check_refused(LATER, order(2, 0, 0, [1, 2, 2]), -6)
        self.check_refused(LATER, order(1, 100, 0, [1, 2, 2]), -1)
        self.check_refused(LATER, order(1, 0, 2, [1, 2, 3]), -1)
        self.check_refused(LATER, order(1, 0, 0, [1, 2, 3, 1, 2, 3]), -1)
        self.check_refused(LATER, order(1, 0, 0, [1, 2, 100]), -1)
        self.check_refused(LATER, order(1, 0, 0, [1, 2, 2]), -4)
        full = hall() + filled(30) + [order(1, 5, 1, [1, 2, 3]), result(1, 5, [0, 1, 2, 3])]
        self.check_refused(full, order(2, 100, 0, [1, 2, 3]), -6)
        self.check_refused(full, order(1, 100, 0, [1, 2, 3]), -1)
        self.check_refused(full, order(1, 30, 2, [1, 2, 3]), -1)
        self.check_refused(full, order(1, 30, 0, [1, 2, -1]), -1)
        self.check_refused(full, order(1, 30, 0, [1, 2, 2]), -7)
        self.check_refused(full, order(1, 30, 0, [1, 2, 3]), -9)
        self.check_refused(full, order(1, 5, -1, [1, 2, 3]), -1)
        self.check_refused(full, order(1, 5, 0, [1, 2]), -7)
        self.check_refused(full, order(1, 5, 0, [1, 2, 3]), -5)

    def test_a_refusal_keeps_the_order_before(self):
        before = hall() + [order(1, 0, 0, [2, 3, 1])]
        for call, number in ((order(1, 0, 0, [1, 2]), -7), (order(1, 0, 2, [1, 2, 3]), -1), (order(1, 0, 0, [1, 2, 100]), -1)):
            self.check_refused(before, call, number, [order(1, 0, 1, [2, 3, 1]), debate(1, 0)])
            self.check(before + [call, order(1, 0, 1, [2, 3, 1])], [2])

    def test_an_order_ends_with_clear(self):
        self.check(hall() + filled(30) + [clear()] + hall() + [debate(1, 0), order(1, 99, 1, [1, 2, 3]), counts()],
                   [-6], [0], [3, 0, 1, 0, 1])


class Debate(HouseCase):
    def check_debate(self, first, second, debated, left, seed=0, stage=1, room=0):
        """The debate of these orders; debated tells, by the coin, which one."""
        offer = len(first)
        coin = coin_by_words(seed, stage, room)
        shift = (stage - 1) * offer
        orders = both(stage, room, [number + shift for number in first], [number + shift for number in second])
        answer = [debated[coin] + shift, coin, len(left)] + [number + shift for number in left]
        self.check(hall(offer, stage, "SEED %d" % seed) + orders + [debate(stage, room)], answer[:1], answer)

    def with_both_coins(self, first, second, debated, left):
        """Rooms 0 to 7 of the seed 0 have both coins."""
        self.assertEqual({coin_by_words(0, 1, room) for room in range(8)}, {0, 1})
        for room in range(8):
            self.check_debate(first, second, debated, left, room=room)

    def test_one_motion(self):
        self.with_both_coins([1], [1], (1, 1), [1])

    def test_two_motions_only_the_first_side_strikes(self):
        self.with_both_coins([1, 2], [2, 1], (1, 1), [1])
        self.with_both_coins([2, 1], [1, 2], (2, 2), [2])
        self.with_both_coins([1, 2], [1, 2], (1, 1), [1])

    def test_three_motions_with_unlike_last_ones(self):
        self.with_both_coins([1, 2, 3], [3, 2, 1], (2, 2), [2])
        self.with_both_coins([1, 2, 3], [3, 1, 2], (1, 1), [1])
        self.with_both_coins([3, 1, 2], [2, 1, 3], (1, 1), [1])

    def test_three_motions_with_the_same_last_one(self):
        self.with_both_coins([1, 2, 3], [1, 2, 3], (1, 1), [1, 2])
        self.with_both_coins([2, 1, 3], [2, 1, 3], (2, 2), [2, 1])

    def test_example(self):
        self.with_both_coins([1, 2, 3], [2, 1, 3], (1, 2), [1, 2])
        self.with_both_coins([2, 1, 3], [1, 2, 3], (2, 1), [2, 1])

    def test_the_least_sum(self):
        self.with_both_coins([1, 2, 3, 4], [2, 3, 1, 4], (2, 2), [1, 2, 3])
        self.with_both_coins([4, 3, 2, 1], [3, 2, 4, 1], (3, 3), [4, 3, 2])
        self.with_both_coins([1, 2, 3, 4, 5], [2, 3, 4, 1, 5], (2, 2), [1, 2, 3, 4])

    def test_alike_sums_the_lesser_greater_place(self):
        self.with_both_coins([1, 2, 3, 4], [3, 2, 1, 4], (2, 2), [1, 2, 3])
        self.with_both_coins([1, 2, 3, 4, 5], [4, 2, 1, 3, 5], (2, 2), [1, 2, 3, 4])
        self.with_both_coins([1, 3, 2, 4], [2, 3, 1, 4], (3, 3), [1, 3, 2])

    def test_alike_sums_and_greater_places_the_coin(self):
        self.with_both_coins([1, 2, 3, 4], [4, 3, 2, 1], (2, 3), [2, 3])
        self.with_both_coins([1, 2, 3, 4], [2, 1, 3, 4], (1, 2), [1, 2, 3])
        self.with_both_coins([5, 1, 2, 3, 4], [1, 5, 2, 3, 4], (5, 1), [5, 1, 2, 3])

    def test_struck_ones_count_in_places(self):
        # Were 5 not counted, 1 and 2 would be alike.
        self.with_both_coins([1, 2, 3, 4, 5], [5, 2, 1, 3, 4], (2, 2), [1, 2, 3])
        # Were 4 not counted, 1 would be ahead.
        self.with_both_coins([4, 1, 2, 3, 5], [2, 5, 1, 3, 4], (2, 2), [1, 2, 3])

    def test_those_left_stand_in_the_first_sides_order(self):
        self.with_both_coins([4, 2, 5, 1, 3], [1, 2, 3, 4, 5], (2, 2), [4, 2, 1])
        self.with_both_coins([5, 3, 1, 2, 4], [1, 2, 3, 5, 4], (1, 1), [5, 3, 1, 2])

    def test_the_coin_by_seed_round_and_room(self):
        met = set()
        for seed in (0, 1, 7, 54321, 99999):
            for stage in (1, 2, 9):
                for room in (0, 1, 50, 99):
                    self.check_debate([1, 2, 3], [2, 1, 3], (1, 2), [1, 2], seed, stage, room)
                    met.add((seed, coin_by_words(seed, stage, room)))
        self.assertEqual(len(met), 10)

    def test_a_coin_reckoned_apart(self):
        # 1103515245 * 10000000 + 12345 is 634602681 modulo 2^31, and that divided by 65536 is 9683: odd.
        self.check(hall(1) + both(1, 0, [1], [1]) + [debate(1, 0)], [1, 1, 1, 1])

    def test_all_orders_of_few_motions(self):
        for offer in (2, 3, 4):
            every = list(itertools.permutations(range(1, offer + 1)))
            pairs = [(list(first), list(second)) for first in every for second in every]
            for start in range(0, len(pairs), 60):
                self.check_pairs(offer, pairs[start:start + 60])

    def test_orders_of_five_motions(self):
        pairs = [([2, 5, 1, 3, 4], list(second)) for second in itertools.permutations(range(1, 6))]
        for start in range(0, len(pairs), 60):
            self.check_pairs(5, pairs[start:start + 60])

    def check_pairs(self, offer, pairs):
        second = Second()
        second.rounds = [list(range(1, offer + 1))]
        for room in range(2):
            expected, calls = [], []
            for orders in pairs:
                calls += both(1, room, *orders) + [debate(1, room)]
                second.orders[1, room, 0], second.orders[1, room, 1] = orders
                expected.append(second.debate(1, room))
            answered = ask(*hall(offer), *calls)[-len(calls):]
            self.assertEqual(answered[2::3], expected)
            self.assertEqual(answered[1::3], [answer[:1] for answer in expected])

    def test_no_such_round_or_room(self):
        before = hall(3, 2) + both(1, 5, [1, 2, 3], [1, 2, 3])
        for stage in (0, 2, 3, -1, HUGE, -HUGE):
            self.check_refused(before, debate(stage, 5), -6)
        for room in (0, 4, 6, 99, 100, -1, HUGE, -HUGE):
            self.check_refused(before, debate(1, room), -6)
        self.check_refused([], debate(1, 0), -6)

    def test_an_order_lacks(self):
        for side in (0, 1):
            self.check_refused(hall() + [order(1, 5, side, [1, 2, 3])], debate(1, 5), -5)

    def test_a_refused_order_makes_no_room(self):
        self.check(hall() + [order(1, 0, 0, [1, 2]), debate(1, 0)], [-7], [-6])
        self.check(LATER + [order(1, 0, 0, [1, 2, 3]), debate(1, 0), counts()], [-4], [-6], [3, 0, 1, 0, 0])

    def test_it_stays_with_a_result_and_with_what_is_struck_out(self):
        before = hall() + both(1, 3, [1, 2, 3], [1, 2, 3])
        answer = [1, coin_by_words(0, 1, 3), 2, 1, 2]
        self.check(before + [debate(1, 3), result(1, 3, [3, 2, 1, 0]), debate(1, 3), strike(1), debate(1, 3), debate(1, 3)],
                   answer, [1], answer, [1], answer, answer)


READY = hall() + both(1, 5, [1, 2, 3], [1, 2, 3])
READY_TWO = hall(3, 1, "SIZE 2") + both(1, 5, [1, 2, 3], [1, 2, 3])


class Result(HouseCase):
    def test_two_teams(self):
        self.check(READY_TWO + [result(1, 5, [0, 1]), result(1, 5, [1, 0])], [1], [0])

    def test_four_teams(self):
        points = {5: "0123 0132 1023 1032", 4: "0213 0312 1203 1302", 3: "0231 0321 1230 1320 2013 2103 3012 3102",
                  2: "2031 2130 3021 3120", 1: "2301 2310 3201 3210"}
        self.assertEqual(sum(len(orders.split()) for orders in points.values()), 24)
        for answer, orders in points.items():
            for places in orders.split():
                with self.subTest(places=places):
                    self.check(READY + [result(1, 5, [int(place) for place in places])], [answer])

    def test_every_order_gives_the_first_half_its_teams_points(self):
        for places in itertools.permutations(range(4)):
            points = {team: 3 - at for at, team in enumerate(places)}
            self.check(READY + [result(1, 5, places)], [points[0] + points[1]])

    def test_wrong_places_of_four(self):
        for places in ([], [0], [0, 1], [0, 1, 2], [0, 1, 2, 3, 3], [0, 1, 2, 3, 4], [0, 1, 2, 2], [0, 0, 0, 0], [1, 2, 3, 4],
                       [-1, 0, 1, 2], [0, 1, 2, HUGE], [-HUGE, 1, 2, 3], [0, 1, 2, 3] * 2, [0, 1, 2, 3, 4, 5, 6, 7, 8, 9]):
            self.check_refused(READY, result(1, 5, places), -1)
            self.check_refused(READY + [result(1, 5, [0, 1, 2, 3])], result(1, 5, places), -1)

    def test_wrong_places_of_two(self):
        for places in ([], [0], [1], [0, 0], [1, 1], [1, 2], [0, 2], [-1, 0], [0, 1, 2], [0, 1, 1], [0, 1, 2, 3], [0, HUGE]):
            self.check_refused(READY_TWO, result(1, 5, places), -1)

    def test_no_such_round_or_room(self):
        for stage in (0, 2, -1, HUGE, -HUGE):
            self.check_refused(READY, result(stage, 5, [0, 1, 2, 3]), -6)
        for room in (0, 4, 6, 99, 100, -1, HUGE, -HUGE):
            self.check_refused(READY, result(1, room, [0, 1, 2, 3]), -6)
        self.check_refused([], result(1, 0, [0, 1, 2, 3]), -6)

    def test_an_order_lacks(self):
        for side in (0, 1):
            before = hall() + [order(1, 5, side, [1, 2, 3])]
            self.check_refused(before, result(1, 5, [0, 1, 2, 3]), -5, [order(1, 5, 1 - side, [1, 2, 3]), even(1)])

    def test_the_first_refusal_counts(self):
        self.check_refused(READY, result(2, 5, [0]), -6)
        self.check_refused(READY, result(1, 6, [0]), -6)
        self.check_refused(hall() + [order(1, 5, 0, [1, 2, 3])], result(2, 5, [0]), -6)
        self.check_refused(hall() + [order(1, 5, 0, [1, 2, 3])], result(1, 6, [0]), -6)
        self.check_refused(hall() + [order(1, 5, 0, [1, 2, 3])], result(1, 5, [0]), -5)

    def test_told_again_it_counts_in_place_of_the_one_before(self):
        first = last(*READY, result(1, 5, [0, 1, 2, 3]), even(1))
        other = last(*READY, result(1, 5, [2, 0, 3, 1]), even(1))
        self.assertEqual((first[:3], other[:3]), ([1, 5, 1], [1, 2, 4]))
        self.check(READY + [result(1, 5, [0, 1, 2, 3]), result(1, 5, [2, 0, 3, 1]), even(1)], [5], [2], other)
        self.check(READY + [result(1, 5, [2, 0, 3, 1]), result(1, 5, [0, 1, 2, 3]), even(1)], [2], [5], first)

    def test_each_room_has_its_own(self):
        before = READY + both(1, 6, [2, 1, 3], [2, 1, 3]) + [result(1, 5, [0, 1, 2, 3]), result(1, 6, [3, 2, 1, 0])]
        self.assertEqual(last(*before, even(1))[:3], [1, 5, 1])
        self.assertEqual(last(*before, even(2))[:3], [1, 1, 5])

    def test_a_round_with_rooms_is_not_undone(self):
        self.check(READY + [undo(), appeal(1, 1), debate(1, 5)], [-4], [-4], [1, coin_by_words(0, 1, 5), 2, 1, 2])
        self.check([rules("OFFER 1\nRELEASE 1 9"), motion(), choose(), undo(), choose(), now(9), order(1, 0, 0, [1])],
                   [0], [1], [1], [0])
