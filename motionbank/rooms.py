"""Rooms: both sides' orders, which motions are struck, which one is debated, a result's points."""

from motionbank.choosing import SEED_FACTOR, drawn, next_state
from motionbank.rules import setting

COIN_FACTOR = 10000000
SIDES = 2


class Room:
    def __init__(self):
        # Neither an order nor a result is ever empty, so empty is one that isn't told yet.
        self.orders = [[], []]
        self.result = []


def has_room(bank, stage, number):
    return (stage, number) in bank.rooms


def room_of(bank, stage, number):
    return bank.rooms[(stage, number)]


def room_count(bank, stage):
    return len([key for key in bank.rooms if key[0] == stage])


def has_both_orders(room):
    return all([len(order) > 0 for order in room.orders])


def coin(bank, stage, number):
    state = SEED_FACTOR * setting(bank.told, "SEED") + COIN_FACTOR * stage + number
    return drawn(next_state(state), SIDES)


def without(numbers, struck):
    return [number for number in numbers if number != struck]


def left_in(room):
    left = list(room.orders[0])
    for order in room.orders:
        if len(left) > 1:
            left = without(left, order[-1])
    return left


def rank(room, side, motion):
    places = [order.index(motion) for order in room.orders]
    return (sum(places), max(places), places[side])


def debated(bank, stage, number):
    room = room_of(bank, stage, number)
    side = coin(bank, stage, number)
    left = left_in(room)
    ranks = [rank(room, side, motion) for motion in left]
    return left[ranks.index(min(ranks))]


def first_half_points(result):
    size = len(result)
    return sum([size - 1 - place for place in range(size) if result[place] < size // 2])


def rooms_debating(bank, motion):
    rooms = []
    for key in bank.rooms:
        room = bank.rooms[key]
        if len(room.result) > 0 and debated(bank, key[0], key[1]) == motion:
            rooms.append(room)
    return rooms
