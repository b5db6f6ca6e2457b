"""Choosing a round's motions by lot, and what takes a motion's place on an appeal."""

from motionbank.bank import motion_of, offered_between, topics_of
from motionbank.rules import level_fits, setting, topic_fits

SEED_FACTOR = 100
STATE_FACTOR = 1103515245
STATE_STEP = 12345
STATE_END = 2147483648
DRAW_DIVISOR = 65536


def next_state(state):
    return (STATE_FACTOR * state + STATE_STEP) % STATE_END


def drawn(state, choices):
    return state // DRAW_DIVISOR % choices


def lot(bank, stage):
    left = list(range(1, len(bank.motions) + 1))
    state = SEED_FACTOR * setting(bank.told, "SEED") + stage
    order = []
    while len(left) > 0:
        state = next_state(state)
        order.append(left.pop(drawn(state, len(left))))
    return order


def fits(bank, stage, motion):
    if motion.struck or not level_fits(bank.told, stage, motion.level):
        return False
    return topic_fits(bank.told, stage, motion.topic)


def offerable(bank, stage):
    before = offered_between(bank, 1, stage - 1)
    resting = topics_of(bank, offered_between(bank, stage - setting(bank.told, "GAP"), stage - 1))
    numbers = []
    for number in lot(bank, stage):
        motion = motion_of(bank, number)
        if fits(bank, stage, motion) and number not in before and motion.topic not in resting:
            numbers.append(number)
    return numbers


def barred_beside(bank, numbers):
    if setting(bank.told, "UNLIKE") == 0:
        return []
    return topics_of(bank, numbers)


def chosen(bank, stage):
    numbers = []
    for number in offerable(bank, stage):
        if len(numbers) == setting(bank.told, "OFFER"):
            return numbers
        if motion_of(bank, number).topic not in barred_beside(bank, numbers):
            numbers.append(number)
    return numbers


def substitutes(bank, stage, replaced):
    others = [number for number in bank.rounds[stage - 1] if number != replaced]
    offered = offered_between(bank, 1, len(bank.rounds))
    behind = offered_between(bank, stage + 1, stage + setting(bank.told, "GAP"))
    barred = topics_of(bank, behind) + barred_beside(bank, others)
    numbers = []
    for number in offerable(bank, stage):
        if number not in offered and motion_of(bank, number).topic not in barred:
            numbers.append(number)
    return numbers
