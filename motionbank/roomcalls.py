"""The calls on rooms: orders, debates, results, and how even a motion was."""

from motionbank.bank import has_motion, has_round, is_released
from motionbank.chances import from_even, just_so, points_of_room, so_far_or_further, ways_of_rooms
from motionbank.replies import FULL, HAS_RESULT, MISSING, NOT_POSSIBLE, ORDER_LACKS, OUT_OF_RANGE, TOO_EARLY, as_row
from motionbank.rooms import SIDES, Room, coin, debated, first_half_points, has_both_orders, has_room, left_in
from motionbank.rooms import room_count, room_of, rooms_debating
from motionbank.rules import setting
from motionbank.words import are_within, digits_of

GREATEST_ROOM = 99
MOST_ROOMS = 30
MOST_RANKED = 5
GREATEST_RANKED = 99
MOST_ROOMS_ASKED = 40


def is_order(numbers):
    return len(numbers) <= MOST_RANKED and are_within(numbers, 0, GREATEST_RANKED)


def order_refusal(bank, stage, number, side, order):
    if not has_round(bank, stage):
        return [MISSING]
    if not 0 <= number <= GREATEST_ROOM or not 0 <= side < SIDES or not is_order(order):
        return [OUT_OF_RANGE]
    if not is_released(bank, stage):
        return [TOO_EARLY]
    if sorted(order) != sorted(bank.rounds[stage - 1]):
        return [NOT_POSSIBLE]
    if not has_room(bank, stage, number) and room_count(bank, stage) == MOST_ROOMS:
        return [FULL]
    if has_room(bank, stage, number) and len(room_of(bank, stage, number).result) > 0:
        return [HAS_RESULT]
    return []


def order_answer(bank, stage, number, side, order):
    refusal = order_refusal(bank, stage, number, side, order)
    if len(refusal) > 0:
        return refusal
    if not has_room(bank, stage, number):
        bank.rooms[(stage, number)] = Room()
    room = room_of(bank, stage, number)
    room.orders[side] = order
    return [debated(bank, stage, number) if has_both_orders(room) else 0]


def debate_refusal(bank, stage, number):
    if not has_round(bank, stage) or not has_room(bank, stage, number):
        return [MISSING]
    if not has_both_orders(room_of(bank, stage, number)):
        return [ORDER_LACKS]
    return []


def debate_answer(bank, stage, number):
    refusal = debate_refusal(bank, stage, number)
    if len(refusal) > 0:
        return refusal
    left = left_in(room_of(bank, stage, number))
    return [debated(bank, stage, number), coin(bank, stage, number)] + as_row(left)


def result_answer(bank, stage, number, places):
    refusal = debate_refusal(bank, stage, number)
    if len(refusal) > 0:
        return refusal
    if sorted(places) != list(range(setting(bank.told, "SIZE"))):
        return [OUT_OF_RANGE]
    room = room_of(bank, stage, number)
    room.result = places
    return [first_half_points(places)]


def decimal_row(number):
    return as_row(digits_of(number))


def even_answer(bank, motion):
    if not has_motion(bank, motion):
        return [MISSING]
    size = setting(bank.told, "SIZE")
    rooms = rooms_debating(bank, motion)
    points = sum([first_half_points(room.result) for room in rooms])
    ways = ways_of_rooms(size, len(rooms))
    answer = [len(rooms), points, len(rooms) * points_of_room(size) - points]
    return answer + decimal_row(so_far_or_further(ways, points)) + decimal_row(sum(ways))


def ways_answer(bank, rooms, points):
    size = setting(bank.told, "SIZE")
    if not 0 <= rooms <= MOST_ROOMS_ASKED or not 0 <= points <= MOST_ROOMS_ASKED * points_of_room(size):
        return [OUT_OF_RANGE]
    ways = ways_of_rooms(size, rooms)
    answer = [from_even(ways, points)] + decimal_row(just_so(ways, points))
    return answer + decimal_row(so_far_or_further(ways, points)) + decimal_row(sum(ways))
