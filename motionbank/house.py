"""The house: calls in one list of whole numbers, and their answers in another."""

from motionbank.bank import Bank
from motionbank.calls import appeal_answer, choose_answer, motion_answer, now_answer, restore_answer
from motionbank.calls import rules_answer, see_answer, shown_answer, strike_answer, undo_answer

CLEAR = 0
RULES = 1
SHOWN = 2
MOTION = 3
STRIKE = 4
RESTORE = 5
CHOOSE = 6
APPEAL = 7
UNDO = 8
NOW = 9
SEE = 10

# By a call's number: how many whole numbers stand behind it, and how many rows behind these.
NUMBER_COUNTS = (0, 0, 0, 1, 1, 1, 0, 2, 0, 1, 2)
ROW_COUNTS = (0, 1, 0, 2, 0, 0, 0, 0, 0, 0, 0)


class Call:
    def __init__(self, kind, numbers, rows, end):
        self.kind = kind
        self.numbers = numbers
        self.rows = rows
        self.end = end


def read_call(calls, start):
    kind = calls[start]
    place = start + 1 + NUMBER_COUNTS[kind]
    numbers = calls[start + 1:place]
    rows = []
    for turn in range(ROW_COUNTS[kind]):
        end = place + 1 + calls[place]
        rows.append(calls[place + 1:end])
        place = end
    return Call(kind, numbers, rows, place)


def answer_of(bank, call):
    numbers = call.numbers
    if call.kind == RULES:
        return rules_answer(bank, call.rows[0])
    if call.kind == SHOWN:
        return shown_answer(bank)
    if call.kind == MOTION:
        return motion_answer(bank, numbers[0], call.rows[0], call.rows[1])
    if call.kind == STRIKE:
        return strike_answer(bank, numbers[0])
    if call.kind == RESTORE:
        return restore_answer(bank, numbers[0])
    if call.kind == CHOOSE:
        return choose_answer(bank)
    if call.kind == APPEAL:
        return appeal_answer(bank, numbers[0], numbers[1])
    if call.kind == UNDO:
        return undo_answer(bank)
    if call.kind == NOW:
        return now_answer(bank, numbers[0])
    if call.kind == SEE:
        return see_answer(bank, numbers[0], numbers[1])
    return [0]


def answers(calls):
    bank = Bank()
    given = []
    place = 0
    while place < len(calls):
        call = read_call(calls, place)
        if call.kind == CLEAR:
            bank = Bank()
        answer = answer_of(bank, call)
        given.append(len(answer))
        given.extend(answer)
        place = call.end
    return given
