"""The calls that only ask: of rounds, motions, lots and counts."""

from motionbank.bank import has_motion, has_round, motion_of, round_with, struck_count
from motionbank.choosing import lot, offerable
from motionbank.replies import MISSING, OUT_OF_RANGE, as_row
from motionbank.rooms import room_count
from motionbank.rules import GREATEST_ROUND, release_of


def offered_answer(bank, stage):
    if not has_round(bank, stage):
        return [MISSING]
    numbers = bank.rounds[stage - 1]
    return [len(numbers), release_of(bank.told, stage), room_count(bank, stage)] + as_row(numbers)


def may_answer(bank, stage):
    if not 1 <= stage <= len(bank.rounds) + 1:
        return [MISSING]
    numbers = offerable(bank, stage)
    return [len(numbers)] + as_row(numbers)


def told_answer(bank, number):
    if not has_motion(bank, number):
        return [MISSING]
    motion = motion_of(bank, number)
    return [motion.level, 1 if motion.struck else 0, round_with(bank, number)] + as_row(motion.topic)


def lot_answer(bank, stage):
    if not 1 <= stage <= GREATEST_ROUND:
        return [OUT_OF_RANGE]
    numbers = lot(bank, stage)
    return [len(numbers)] + as_row(numbers)


def counts_answer(bank):
    return [len(bank.motions), struck_count(bank), len(bank.rounds), bank.minute, len(bank.rooms)]
