"""How calls are handed in and answers given back."""

import os
import subprocess
import sys
import unittest

from motionbank.house import answers
from tests.support import (PROBE, ask, choose, clear, motion, now, restore, rules, see, shown, strike, topics, undo,
                           appeal)

SOME = [rules("OFFER 2\nRELEASE 1 60\nGAP 0")] + topics("A B C D E") + [
    strike(2), choose(), appeal(1, 2), choose(), see(0, 0), undo(), now(60), see(-5, 55), restore(2), shown(), see(1, 100)]


def flat(calls):
    return [number for call in calls for number in call]


class TheList(unittest.TestCase):
    def test_each_answer_stands_behind_its_count(self):
        calls = [1, 7, 79, 70, 70, 69, 82, 32, 49, 3, 2, 1, 65, 0, 3, 1, 1, 66, 2, 7, 8, 4, 3, 4, 2, 6, 10, 0, 0, 10, 0, 1]
        self.assertEqual(answers(calls), [4, 0, 5, 1, 4, 1, 1, 1, 2, 1, -6, 1, 1, 1, 1, 4, 1, 2, 1, 1, 1, -4])

    def test_a_fault_is_three_numbers(self):
        self.assertEqual(answers([1, 1, 88]), [3, 1, 1, 1])

    def test_every_call_alone(self):
        self.assertEqual(answers([0]), [1, 0])
        self.assertEqual(answers([1, 0]), [4, 0, 5, 3, 4])
        self.assertEqual(answers([2])[:3], [47, 6, 8])
        self.assertEqual(answers([3, 1, 1, 65, 0]), [1, 1])
        self.assertEqual(answers([4, 1]), [1, -6])
        self.assertEqual(answers([5, 1]), [1, -6])
        self.assertEqual(answers([6]), [1, -7])
        self.assertEqual(answers([7, 1, 1]), [1, -6])
        self.assertEqual(answers([8]), [1, -6])
        self.assertEqual(answers([9, 1]), [1, 0])
        self.assertEqual(answers([10, 0, 0]), [1, 0])

    def test_numbers_like_calls_within_rows_are_no_calls(self):
        self.assertEqual(ask(rules([10, 10, 10]), motion(1, "A", [0, 0, 9, 9]), motion(1, "B", [0])), [[0, 5, 3, 4], [1], [2]])
        self.assertEqual(ask(motion(1, [], [0, 0]), motion(1, [0, 0], []), motion()), [[-1], [-1], [1]])

    def test_250_calls(self):
        self.assertEqual(answers([2] * 250), answers([2]) * 250)
        self.assertEqual(answers([0] * 250), [1, 0] * 250)

    def test_16000_numbers(self):
        calls = flat([rules(" " * 1500)] * 10 + [clear()] * 100)
        self.assertEqual(answers(calls), [4, 0, 5, 3, 4] * 10 + [1, 0] * 100)

    def test_whole_numbers_in_a_list(self):
        given = answers(flat(SOME))
        self.assertIs(type(given), list)
        self.assertEqual({type(number) for number in given}, {int})

    def test_what_is_handed_in_stays(self):
        calls = flat(SOME)
        before = list(calls)
        answers(calls)
        self.assertEqual(calls, before)

    def test_what_is_handed_in_is_never_changed_for_a_while(self):
        class Watched(list):
            def changed(self, *given):
                raise AssertionError("the list was changed")
            append = extend = insert = pop = remove = reverse = sort = clear = changed
            __setitem__ = __delitem__ = __iadd__ = __imul__ = changed
        self.assertEqual(answers(Watched(flat(SOME))), answers(flat(SOME)))


class Kept(unittest.TestCase):
    def test_a_second_time_is_as_the_first(self):
        first = answers(flat(SOME))
        self.assertEqual(answers(flat(SOME)), first)
        self.assertEqual(answers(flat(PROBE)), answers(flat([clear()] + PROBE))[2:])

    def test_what_is_given_back_is_its_own_list(self):
        first = answers([2])
        first.append(5)
        first[1] = 9
        self.assertEqual(answers([2])[:2], [47, 6])

    def test_nothing_is_printed(self):
        code = "from motionbank.house import answers; answers(%r)" % flat(SOME)
        top = os.path.dirname(os.path.dirname(os.path.abspath(__file__)))
        ran = subprocess.run([sys.executable, "-c", code], cwd=top, stdin=subprocess.DEVNULL, capture_output=True)
        self.assertEqual((ran.returncode, ran.stdout, ran.stderr), (0, b"", b""))


class Clear(unittest.TestCase):
    def test_all_is_as_at_the_beginning(self):
        answered = ask(*SOME, clear(), *PROBE)
        self.assertEqual(answered[len(SOME)], [0])
        self.assertEqual(answered[len(SOME) + 1:], ask(*PROBE))

    def test_each_thing_is_gone(self):
        self.assertEqual(ask(rules("GAP 3"), clear(), shown())[-1], ask(shown())[0])
        self.assertEqual(ask(motion(), clear(), rules("OFFER 1"), motion(), choose(), clear(), motion(), undo())[-2:], [[1], [-6]])
        self.assertEqual(ask(now(9), clear(), rules(), see(0, 1), now(0))[-3:], [[0, 5, 3, 4], [-4], [0]])
        self.assertEqual(ask(motion(), strike(1), clear(), motion(), motion(), strike(2))[-1], [1])

    def test_before_it_all_is_answered_as_ever(self):
        self.assertEqual(ask(*SOME, clear())[:-1], ask(*SOME))
        self.assertEqual(ask(clear(), clear(), *SOME)[2:], ask(*SOME))
