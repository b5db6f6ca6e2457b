"""The house: calls in one list of whole numbers, and their answers in another."""

from motionbank.asking import counts_answer, lot_answer, may_answer, offered_answer, told_answer
from motionbank.bank import Bank
from motionbank.calls import appeal_answer, choose_answer, motion_answer, now_answer, read_answer, restore_answer
from motionbank.calls import rules_answer, see_answer, shown_answer, strike_answer, undo_answer
from motionbank.roomcalls import debate_answer, even_answer, order_answer, result_answer, ways_answer

CLEAR = 0
RULES = 1
SHOWN = 2
MOTION = 3
STRIKE = 4
RESTORE = 5
CHOOSE = 6
APPEAL = 7
UNDO = 8
NOW = 9
SEE = 10
READ = 11
ORDER = 12
DEBATE = 13
RESULT = 14
OFFERED = 15
MAY = 16
TOLD = 17
EVEN = 18
WAYS = 19
LOT = 20
COUNTS = 21

# By a call's number: how many whole numbers stand behind it, and how many rows behind these.
NUMBER_COUNTS = (0, 0, 0, 1, 1, 1, 0, 2, 0, 1, 2, 4, 3, 2, 2, 1, 1, 1, 1, 2, 1, 0)
ROW_COUNTS = (0, 1, 0, 2, 0, 0, 0, 0, 0, 0, 0, 0, 1, 0, 1, 0, 0, 0, 0, 0, 0, 0)


class Call:
    def __init__(self, kind, numbers, rows, end):
        self.kind = kind
        self.numbers = numbers
        self.rows = rows
        self.end = end


def read_call(calls, start):
    kind = calls[start]
    place = start + 1 + NUMBER_COUNTS[kind]
    numbers = calls[start + 1:place]
    rows = []
    for turn in range(ROW_COUNTS[kind]):
        end = place + 1 + calls[place]
        rows.append(calls[place + 1:end])
        place = end
    return Call(kind, numbers, rows, place)


# A call is sought in three steps, as one function for all of them would be too long.

def answer_on_bank(bank, call):
    numbers = call.numbers
    if call.kind == RULES:
        return rules_answer(bank, call.rows[0])
    if call.kind == SHOWN:
        return shown_answer(bank)
    if call.kind == MOTION:
        return motion_answer(bank, numbers[0], call.rows[0], call.rows[1])
    if call.kind == STRIKE:
        return strike_answer(bank, numbers[0])
    if call.kind == RESTORE:
        return restore_answer(bank, numbers[0])
    if call.kind == CHOOSE:
        return choose_answer(bank)
    if call.kind == APPEAL:
        return appeal_answer(bank, numbers[0], numbers[1])
    if call.kind == UNDO:
        return undo_answer(bank)
    if call.kind == NOW:
        return now_answer(bank, numbers[0])
    if call.kind == SEE:
        return see_answer(bank, numbers[0], numbers[1])
    if call.kind == READ:
        return read_answer(bank, numbers[0], numbers[1], numbers[2], numbers[3])
    return answer_on_rooms(bank, call)


def answer_on_rooms(bank, call):
    numbers = call.numbers
    if call.kind == ORDER:
        return order_answer(bank, numbers[0], numbers[1], numbers[2], call.rows[0])
    if call.kind == DEBATE:
        return debate_answer(bank, numbers[0], numbers[1])
    if call.kind == RESULT:
        return result_answer(bank, numbers[0], numbers[1], call.rows[0])
    if call.kind == EVEN:
        return even_answer(bank, numbers[0])
    if call.kind == WAYS:
        return ways_answer(bank, numbers[0], numbers[1])
    return answer_when_asked(bank, call)


def answer_when_asked(bank, call):
    numbers = call.numbers
    if call.kind == OFFERED:
        return offered_answer(bank, numbers[0])
    if call.kind == MAY:
        return may_answer(bank, numbers[0])
    if call.kind == TOLD:
        return told_answer(bank, numbers[0])
    if call.kind == LOT:
        return lot_answer(bank, numbers[0])
    if call.kind == COUNTS:
        return counts_answer(bank)
    return [0]


def answers(calls):
    bank = Bank()
    given = []
    place = 0
    while place < len(calls):
        call = read_call(calls, place)
        if call.kind == CLEAR:
            bank = Bank()
        answer = answer_on_bank(bank, call)
        given.append(len(answer))
        given.extend(answer)
        place = call.end
    return given
