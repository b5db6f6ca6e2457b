"""The bank: the rules, the motions, the rounds, their rooms and the minute of the world."""

from motionbank.rules import release_of


class Motion:
    def __init__(self, level, topic, text):
        self.level = level
        self.topic = topic
        self.text = text
        self.struck = False


class Bank:
    def __init__(self):
        self.told = {}
        self.motions = []
        # Each round is the list of its motions' numbers.
        self.rounds = []
        # By (round, room). Only a released round has rooms, and it stays as it is: none outlives its round.
        self.rooms = {}
        self.minute = 0


def has_motion(bank, number):
    return 1 <= number <= len(bank.motions)


def has_round(bank, stage):
    return 1 <= stage <= len(bank.rounds)


def motion_of(bank, number):
    return bank.motions[number - 1]


def struck_count(bank):
    return len([motion for motion in bank.motions if motion.struck])


def offered_between(bank, first, last):
    offered = []
    for stage in range(max(first, 1), min(last, len(bank.rounds)) + 1):
        offered.extend(bank.rounds[stage - 1])
    return offered


def round_with(bank, number):
    for stage in range(1, len(bank.rounds) + 1):
        if number in bank.rounds[stage - 1]:
            return stage
    return 0


def topics_of(bank, numbers):
    return [motion_of(bank, number).topic for number in numbers]


def released_by(bank, minute):
    return [stage for stage in range(1, len(bank.rounds) + 1) if release_of(bank.told, stage) <= minute]


def is_released(bank, stage):
    return stage in released_by(bank, bank.minute)
