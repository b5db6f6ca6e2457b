"""How calls are handed in and answers given back."""

import os
import subprocess
import sys
import unittest

from motionbank.house import answers
from tests.support import (PROBE, appeal, ask, both, choose, clear, counts, debate, even, hall, lot, may, motion, now, offered,
                           order, read, restore, result, rules, see, shown, strike, told, topics, undo, ways)

SOME = [rules("OFFER 2\nRELEASE 1 60\nGAP 0")] + topics("A B C D E") + [
    strike(2), choose(), appeal(1, 2), choose(), see(0, 0), undo(), now(60), see(-5, 55), restore(2), shown(), see(1, 100)]

# Calls of all kinds, answered and refused; round 1 has the motions 1 to 3, round 2 those from 4 on.
MANY = hall(3, 2, "SEED 77") + both(1, 4, [1, 2, 3], [2, 1, 3]) + [
    debate(1, 4), result(1, 4, [2, 0, 1, 3]), even(1), even(2), ways(3, 7), lot(2), may(1), may(3), told(5), offered(1), counts(),
    see(0, 0), read(2, 1, -5, -5), shown(), strike(3), told(3), restore(3), undo(), appeal(1, 1), now(9), choose(), motion(),
    rules(), order(1, 4, 0, [3, 2, 1]), order(2, 4, 1, [4, 5, 6]), debate(2, 4), result(2, 4, [0, 1, 2, 3]), read(1, 5, 0, 0),
    ways(41, 0), lot(0), may(4), told(7), even(0), offered(3), counts()]


def flat(calls):
    return [number for call in calls for number in call]


class TheList(unittest.TestCase):
    def test_each_answer_stands_behind_its_count(self):
        calls = [1, 7, 79, 70, 70, 69, 82, 32, 49, 3, 2, 1, 65, 0, 3, 1, 1, 66, 2, 7, 8, 4, 3, 4, 2, 6, 10, 0, 0, 10, 0, 1]
        self.assertEqual(answers(calls), [4, 0, 5, 1, 4, 1, 1, 1, 2, 1, -6, 1, 1, 1, 1, 4, 1, 2, 1, 1, 1, -4])

    def test_a_fault_is_three_numbers(self):
        self.assertEqual(answers([1, 1, 88]), [3, 1, 1, 1])

    def test_every_call_alone(self):
        self.assertEqual(answers([0]), [1, 0])
        self.assertEqual(answers([1, 0]), [4, 0, 5, 3, 4])
        self.assertEqual(answers([2])[:3], [47, 6, 8])
        self.assertEqual(answers([3, 1, 1, 65, 0]), [1, 1])
        self.assertEqual(answers([4, 1]), [1, -6])
        self.assertEqual(answers([5, 1]), [1, -6])
        self.assertEqual(answers([6]), [1, -7])
        self.assertEqual(answers([7, 1, 1]), [1, -6])
        self.assertEqual(answers([8]), [1, -6])
        self.assertEqual(answers([9, 1]), [1, 0])
        self.assertEqual(answers([10, 0, 0]), [1, 0])
        self.assertEqual(answers([11, 1, 0, 0, 0]), [1, -6])
        self.assertEqual(answers([12, 1, 0, 0, 3, 1, 2, 3]), [1, -6])
        self.assertEqual(answers([13, 1, 0]), [1, -6])
        self.assertEqual(answers([14, 1, 0, 2, 0, 1]), [1, -6])
        self.assertEqual(answers([15, 1]), [1, -6])
        self.assertEqual(answers([16, 1]), [2, 0, 0])
        self.assertEqual(answers([17, 1]), [1, -6])
        self.assertEqual(answers([18, 1]), [1, -6])
        self.assertEqual(answers([19, 1, 3]), [9, 0, 1, 56, 2, 50, 52, 2, 50, 52])
        self.assertEqual(answers([20, 1]), [2, 0, 0])
        self.assertEqual(answers([21]), [5, 0, 0, 0, 0, 0])

    def test_the_rows_of_each_answer_stand_behind_their_counts(self):
        room = [rules("OFFER 1\nSIZE 2\nSEED 3"), motion(2, "AB", [7, 8, 9]), choose()] + both(1, 6, [1], [1])
        asked = [read(1, 0, 0, 0), debate(1, 6), result(1, 6, [1, 0]), offered(1), may(1), told(1), even(1), ways(2, 1), lot(1),
                 counts()]
        coin = (1103515245 * 10000306 + 12345) % 2 ** 31 // 65536 % 2
        self.assertEqual(ask(*room, *asked)[3:], [
            [0], [1], [1, 2, 2, 65, 66, 3, 7, 8, 9], [1, coin, 1, 1], [0], [1, 0, 1, 1, 1], [1, 1, 1], [2, 0, 1, 2, 65, 66],
            [1, 0, 1, 1, 50, 1, 50], [0, 1, 50, 1, 52, 1, 52], [1, 1, 1], [1, 0, 1, 0, 1]])

    def test_calls_behind_each_kind_are_found(self):
        for call in MANY:
            self.assertEqual(ask(*hall(), call, clear(), counts())[-2:], [[0], [0, 0, 0, 0, 0]])
        for count in range(11):
            self.assertEqual(ask(order(1, 0, 0, [21] * count), result(1, 0, [21] * count), counts()), [[-6], [-6], [0] * 5])

    def test_numbers_like_calls_within_rows_are_no_calls(self):
        self.assertEqual(ask(rules([10, 10, 10]), motion(1, "A", [0, 0, 9, 9]), motion(1, "B", [0])), [[0, 5, 3, 4], [1], [2]])
        self.assertEqual(ask(motion(1, [], [0, 0]), motion(1, [0, 0], []), motion()), [[-1], [-1], [1]])

    def test_250_calls(self):
        self.assertEqual(answers([2] * 250), answers([2]) * 250)
        self.assertEqual(answers([0] * 250), [1, 0] * 250)

    def test_250_calls_of_all_kinds(self):
        calls = (MANY * 6)[:240] + [clear()] + [counts()] * 9
        chances = [place for place, call in enumerate(calls) if call[0] in (18, 19)]
        calls = [counts() if place in chances[15:] else call for place, call in enumerate(calls)]
        self.assertEqual({call[0] for call in calls}, set(range(22)))
        self.assertEqual(len(calls), 250)
        given = ask(*calls)
        self.assertEqual(given[:len(MANY)], ask(*MANY))
        self.assertEqual(given[241:], [[0] * 5] * 9)

    def test_16000_numbers(self):
        calls = flat([rules(" " * 1500)] * 10 + [clear()] * 100)
        self.assertEqual(answers(calls), [4, 0, 5, 3, 4] * 10 + [1, 0] * 100)

    def test_whole_numbers_in_a_list(self):
        for calls in (SOME, MANY):
            given = answers(flat(calls))
            self.assertIs(type(given), list)
            self.assertEqual({type(number) for number in given}, {int})

    def test_only_the_first_number_is_below_0(self):
        for answer in ask(*SOME) + ask(*MANY):
            self.assertTrue(len(answer) == 1 or min(answer) >= 0, answer)

    def test_what_is_handed_in_stays(self):
        for some in (SOME, MANY):
            calls = flat(some)
            before = list(calls)
            answers(calls)
            self.assertEqual(calls, before)

    def test_what_is_handed_in_is_never_changed_for_a_while(self):
        class Watched(list):
            def changed(self, *given):
                raise AssertionError("the list was changed")
            append = extend = insert = pop = remove = reverse = sort = clear = changed
            __setitem__ = __delitem__ = __iadd__ = __imul__ = changed
        for calls in (SOME, MANY):
            self.assertEqual(answers(Watched(flat(calls))), answers(flat(calls)))


class Kept(unittest.TestCase):
    def test_a_second_time_is_as_the_first(self):
        first = answers(flat(SOME))
        self.assertEqual(answers(flat(SOME)), first)
        many = answers(flat(MANY))
        self.assertEqual(answers(flat(MANY)), many)
        self.assertEqual(answers(flat(SOME)), first)
        self.assertEqual(answers(flat([counts()])), [5, 0, 0, 0, 0, 0])
        self.assertEqual(answers(flat(PROBE)), answers(flat([clear()] + PROBE))[2:])

    def test_what_is_given_back_is_its_own_list(self):
        first = answers([2])
        first.append(5)
        first[1] = 9
        self.assertEqual(answers([2])[:2], [47, 6])

    def test_nothing_is_printed(self):
        code = "from motionbank.house import answers; answers(%r)" % flat(SOME + [clear()] + MANY)
        top = os.path.dirname(os.path.dirname(os.path.abspath(__file__)))
        ran = subprocess.run([sys.executable, "-c", code], cwd=top, stdin=subprocess.DEVNULL, capture_output=True)
        self.assertEqual((ran.returncode, ran.stdout, ran.stderr), (0, b"", b""))


class Clear(unittest.TestCase):
    def test_all_is_as_at_the_beginning(self):
        answered = ask(*SOME, clear(), *PROBE)
        self.assertEqual(answered[len(SOME)], [0])
        self.assertEqual(answered[len(SOME) + 1:], ask(*PROBE))

    def test_rooms_and_results_are_gone(self):
        answered = ask(*MANY, clear(), *hall(3, 2, "SEED 77"), counts(), debate(1, 4), offered(1), even(1), even(2))
        self.assertEqual(answered[-5:-3], [[6, 0, 2, 0, 0], [-6]])
        self.assertEqual(answered[-3][:3], [3, 0, 0])
        self.assertEqual(answered[-2:], [[0, 0, 0, 1, 49, 1, 49]] * 2)
        self.assertEqual(ask(*MANY, clear(), *MANY)[len(MANY) + 1:], ask(*MANY))

    def test_each_thing_is_gone(self):
        self.assertEqual(ask(rules("GAP 3"), clear(), shown())[-1], ask(shown())[0])
        self.assertEqual(ask(motion(), clear(), rules("OFFER 1"), motion(), choose(), clear(), motion(), undo())[-2:], [[1], [-6]])
        self.assertEqual(ask(now(9), clear(), rules(), see(0, 1), now(0))[-3:], [[0, 5, 3, 4], [-4], [0]])
        self.assertEqual(ask(motion(), strike(1), clear(), motion(), motion(), strike(2))[-1], [1])

    def test_before_it_all_is_answered_as_ever(self):
        self.assertEqual(ask(*SOME, clear())[:-1], ask(*SOME))
        self.assertEqual(ask(clear(), clear(), *SOME)[2:], ask(*SOME))
