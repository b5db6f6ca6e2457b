"""The calls on rules, motions, rounds and time: each answers a list of numbers, a refusal its number alone."""

from motionbank.bank import Motion, has_motion, has_round, is_released, motion_of, released_by, struck_count
from motionbank.choosing import chosen, substitutes
from motionbank.replies import ALREADY_BEGUN, FULL, MISSING, NOT_POSSIBLE, OUT_OF_RANGE, TOO_EARLY, TOO_LATE, as_row
from motionbank.rules import GREATEST_LEVEL, NO_FAULT, read_rules, release_of, setting, shown_lines
from motionbank.words import are_bytes, is_topic

MOST_RULES_BYTES = 1500
MOST_TEXT_BYTES = 100
MOST_MOTIONS = 40
LATEST_NOW = 200000
GREATEST_ZONE = 900
EARLIEST_CLOCK = -1000
LATEST_CLOCK = 201000


def rules_answer(bank, text):
    if len(text) > MOST_RULES_BYTES or not are_bytes(text):
        return [OUT_OF_RANGE]
    if len(bank.motions) > 0 or len(bank.rounds) > 0 or bank.minute != 0:
        return [ALREADY_BEGUN]
    reading = read_rules(text)
    if reading.fault != NO_FAULT:
        return [1, reading.fault, reading.line]
    bank.told = reading.told
    return [0, setting(bank.told, "ROUNDS"), setting(bank.told, "OFFER"), setting(bank.told, "SIZE")]


def shown_answer(bank):
    lines = shown_lines(bank.told)
    answer = [len(lines)]
    for line in lines:
        answer.extend(as_row(line))
    return answer


def motion_answer(bank, level, topic, text):
    if not 1 <= level <= GREATEST_LEVEL or not is_topic(topic):
        return [OUT_OF_RANGE]
    if len(text) > MOST_TEXT_BYTES or not are_bytes(text):
        return [OUT_OF_RANGE]
    if len(bank.motions) == MOST_MOTIONS:
        return [FULL]
    if len(bank.rounds) > 0:
        return [TOO_LATE]
    bank.motions.append(Motion(level, topic, text))
    return [len(bank.motions)]


def mark_struck(bank, number, struck):
    if not has_motion(bank, number):
        return [MISSING]
    motion = motion_of(bank, number)
    if motion.struck == struck:
        return [NOT_POSSIBLE]
    motion.struck = struck
    return [struck_count(bank)]


def strike_answer(bank, number):
    return mark_struck(bank, number, True)


def restore_answer(bank, number):
    return mark_struck(bank, number, False)


def choose_answer(bank):
    if len(bank.rounds) == setting(bank.told, "ROUNDS"):
        return [FULL]
    numbers = chosen(bank, len(bank.rounds) + 1)
    if len(numbers) < setting(bank.told, "OFFER"):
        return [NOT_POSSIBLE]
    bank.rounds.append(numbers)
    return [len(bank.rounds)]


def appeal_answer(bank, stage, number):
    if not has_round(bank, stage):
        return [MISSING]
    if is_released(bank, stage):
        return [TOO_LATE]
    offered = bank.rounds[stage - 1]
    if number not in offered:
        return [MISSING]
    instead = substitutes(bank, stage, number)
    if len(instead) == 0:
        return [NOT_POSSIBLE]
    offered[offered.index(number)] = instead[0]
    return [0]


def undo_answer(bank):
    if len(bank.rounds) == 0:
        return [MISSING]
    if is_released(bank, len(bank.rounds)):
        return [TOO_LATE]
    bank.rounds.pop()
    return [len(bank.rounds)]


def now_answer(bank, minute):
    if not bank.minute <= minute <= LATEST_NOW:
        return [OUT_OF_RANGE]
    bank.minute = minute
    return [len(released_by(bank, minute))]


def is_clock(zone, minute):
    return -GREATEST_ZONE <= zone <= GREATEST_ZONE and EARLIEST_CLOCK <= minute <= LATEST_CLOCK


def see_answer(bank, zone, minute):
    if not is_clock(zone, minute):
        return [OUT_OF_RANGE]
    world = minute - zone
    if world > bank.minute:
        return [TOO_EARLY]
    stages = released_by(bank, world)
    answer = [len(stages)]
    for stage in stages:
        answer.extend(as_row([stage] + bank.rounds[stage - 1]))
    return answer


def read_answer(bank, stage, place, zone, minute):
    if not has_round(bank, stage):
        return [MISSING]
    if not is_clock(zone, minute):
        return [OUT_OF_RANGE]
    if not release_of(bank.told, stage) <= minute - zone <= bank.minute:
        return [TOO_EARLY]
    numbers = bank.rounds[stage - 1]
    if not 0 <= place < len(numbers):
        return [MISSING]
    motion = motion_of(bank, numbers[place])
    return [numbers[place], motion.level] + as_row(motion.topic) + as_row(motion.text)
