"""The calls motion, strike and restore."""

from tests.support import (HUGE, HouseCase, ask, choose, codes, last, motion, restore, rounds_at_last, rules, strike,
                           topics, undo)


class Motions(HouseCase):
    def test_numbered_from_1(self):
        self.assertEqual(ask(motion(), motion(5, "ZZZZZZZZ", "x"), motion()), [[1], [2], [3]])

    def test_alike_motions_are_two(self):
        self.assertEqual(ask(motion(1, "A", "x"), motion(1, "A", "x")), [[1], [2]])

    def test_level(self):
        for level in (1, 2, 3, 4, 5):
            self.assertEqual(last(motion(level)), [1])
        for level in (0, 6, -1, HUGE, -HUGE):
            self.check_refused([motion()], motion(level), -1)

    def test_topic(self):
        for topic in ("A", "Z", "ABCDEFGH", "ZZZZZZZZ"):
            self.assertEqual(last(motion(1, topic)), [1])
        for topic in ("", "ABCDEFGHI", "a", "A1", "A ", "@", "[", "A" * 20, [HUGE], [65, -HUGE], [65 + 256]):
            self.check_refused([motion()], motion(1, topic), -1)

    def test_text(self):
        for text in ("", "x", [0], [255], [10, 32, 13], "x" * 100, list(range(156, 256))):
            self.assertEqual(last(motion(1, "A", text)), [1])
        for text in ("x" * 101, "x" * 120, [-1], [256], codes("x" * 99) + [256], [HUGE], [-HUGE]):
            self.check_refused([motion()], motion(1, "A", text), -1)

    def test_40_motions(self):
        answered = ask(*[motion()] * 41)
        self.assertEqual(answered[:40], [[number] for number in range(1, 41)])
        self.check_refused([motion()] * 40, motion(), -9)

    def test_none_behind_a_round(self):
        before = [rules("OFFER 1\nRELEASE 1 5"), motion(), choose()]
        self.check_refused(before, motion(), -4)
        self.check(before + [undo(), motion()], [2])

    def test_the_first_refusal_counts(self):
        full = [motion()] * 40
        with_round = [rules("OFFER 1\nRELEASE 1 5")] + full + [choose()]
        self.check_refused(full, motion(0), -1)
        self.check_refused(with_round, motion(), -9)
        self.check_refused(with_round, motion(1, "a"), -1)
        self.check_refused(with_round, motion(1, "A", [256]), -1)
        self.check_refused([rules("OFFER 1"), motion(), choose()], motion(0), -1)


class Strikes(HouseCase):
    def test_how_many_are_struck_out_then(self):
        self.check([motion()] * 3 + [strike(3), strike(1), restore(3), strike(2), strike(3), restore(1)],
                   [1], [2], [1], [2], [3], [2])

    def test_no_such_motion(self):
        for number in (0, 4, -1, HUGE, -HUGE):
            self.check_refused(topics("A B C"), strike(number), -6)
            self.check_refused(topics("A B C") + [strike(3)], restore(number), -6)
        self.check_refused([], strike(1), -6)
        self.check_refused([], restore(1), -6)

    def test_struck_out_already_or_not(self):
        self.check_refused(topics("A B C") + [strike(2)], strike(2), -7)
        self.check_refused(topics("A B C") + [strike(2)], restore(1), -7)
        self.check_refused(topics("A B C") + [strike(2), restore(2)], restore(2), -7)

    def test_a_round_keeps_what_is_struck(self):
        before = [rules("OFFER 2")] + topics("A B") + [choose()]
        self.assertEqual(rounds_at_last(*before, strike(1), strike(2)), rounds_at_last(*before))

    def test_numbers_stay_as_motions_are_struck(self):
        self.check(topics("A B") + [strike(1), motion(1, "C"), strike(3)], [3], [2])

    def test_struck_is_not_chosen_and_restored_is(self):
        before = [rules("OFFER 1")] + topics("A B")
        self.assertEqual(rounds_at_last(*before, strike(1), choose()), {1: [2]})
        self.assertEqual(rounds_at_last(*before, strike(2), choose()), {1: [1]})
        self.check_refused(before + [strike(1), strike(2)], choose(), -7)
        self.assertEqual(rounds_at_last(*before, strike(1), strike(2), restore(2), choose()), {1: [2]})
