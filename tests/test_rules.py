"""The calls rules and shown."""

from tests.support import (HUGE, HouseCase, ask, choose, codes, last, lines_shown, motion, now, rounds_at_last, rules,
                           shown, topics)

DEFAULTS = ["ROUNDS 5", "OFFER 3", "GAP 1", "UNLIKE 1", "SIZE 4", "SEED 0"]


class RulesCase(HouseCase):
    def check_taken(self, text, *lines):
        """The text is taken, and of the lines shown there are these."""
        with self.subTest(text=text):
            answered = ask(rules(text), shown())
            self.assertEqual(answered[0][0], 0)
            for line in lines:
                self.assertIn(line, lines_shown(answered[1]))

    def check_fault(self, text, fault, line):
        with self.subTest(text=text):
            before = rules("ROUNDS 2\nOFFER 1\nSEED 77\nTOPICS 2 KEPT")
            answered = ask(before, rules(text), shown())
            self.assertEqual(answered[1], [1, fault, line])
            self.assertEqual(answered[2], last(before, shown()))


class Answers(RulesCase):
    def test_empty_text_has_the_defaults(self):
        self.assertEqual(last(rules("")), [0, 5, 3, 4])

    def test_rounds_offer_and_size_are_answered(self):
        self.assertEqual(last(rules("SIZE 2\nOFFER 1\nROUNDS 9")), [0, 9, 1, 2])
        self.assertEqual(last(rules("GAP 7\nSEED 6\nUNLIKE 0")), [0, 5, 3, 4])

    def test_told_again_the_earlier_text_is_gone(self):
        answered = ask(rules("ROUNDS 9\nSEED 5\nLEVELS 9 1 1"), rules("GAP 0"), shown())
        self.assertEqual(answered[1], [0, 5, 3, 4])
        self.assertEqual(lines_shown(answered[2]), ["ROUNDS 5", "OFFER 3", "GAP 0", "UNLIKE 1", "SIZE 4", "SEED 0"])


class Shown(RulesCase):
    def test_without_lines_what_holds_is_shown(self):
        self.assertEqual(lines_shown(last(shown())), DEFAULTS)
        self.assertEqual(lines_shown(last(rules("\n \n"), shown())), DEFAULTS)

    def test_rows_stand_behind_their_counts(self):
        expected = [6]
        for line in DEFAULTS:
            expected += [len(line)] + codes(line)
        self.assertEqual(last(shown()), expected)

    def test_told_in_another_order(self):
        text = ("RELEASE 2 60\nTOPICS 3 Z A\nSEED 00042\nLEVELS 4 2 2\nSIZE 2\nUNLIKE 0\n\nTOPICS 1 LAW\nLEVELS 01 001 5\n"
                "RELEASE 1 0\nGAP 2\nOFFER 0004\nROUNDS 4\nTOPICS 2 B")
        self.assertEqual(lines_shown(last(rules(text), shown())), [
            "ROUNDS 4", "OFFER 4", "GAP 2", "UNLIKE 0", "SIZE 2", "SEED 42", "LEVELS 4 2 2", "LEVELS 1 1 5",
            "TOPICS 3 Z A", "TOPICS 1 LAW", "TOPICS 2 B", "RELEASE 2 60", "RELEASE 1 0"])

    def test_words_are_parted_by_one_blank_and_zeros_go(self):
        text = "   TOPICS   02    AB   CD  \n  SEED    00000   \nRELEASE 00003 00070"
        self.assertEqual(lines_shown(last(rules(text), shown()))[5:], ["SEED 0", "TOPICS 2 AB CD", "RELEASE 3 70"])

    def test_shown_rules_told_again_are_shown_alike(self):
        first = last(rules("RELEASE 2 9\nTOPICS 1 Q\nGAP 0\nLEVELS 5 1 2"), shown())
        self.assertEqual(last(rules("\n".join(lines_shown(first))), shown()), first)

    def test_shown_changes_nothing(self):
        self.assertEqual(ask(shown(), shown(), rules("GAP 3")), [last(shown()), last(shown()), [0, 5, 3, 4]])


class Numbers(RulesCase):
    def test_least_and_greatest(self):
        for line in ("ROUNDS 1", "ROUNDS 9", "OFFER 1", "OFFER 5", "GAP 0", "GAP 9", "UNLIKE 0", "UNLIKE 1", "SIZE 2",
                     "SIZE 4", "SEED 0", "SEED 99999"):
            self.check_taken(line, line)
        for line in ("LEVELS 1 1 1", "LEVELS 9 5 5", "LEVELS 9 1 5", "LEVELS 1 2 3", "TOPICS 1 A", "TOPICS 9 A",
                     "RELEASE 1 0", "RELEASE 9 99999"):
            self.check_taken("ROUNDS 9\n" + line, line)

    def test_just_outside(self):
        for line in ("ROUNDS 0", "ROUNDS 10", "OFFER 0", "OFFER 6", "GAP 10", "UNLIKE 2", "SIZE 1", "SIZE 3", "SIZE 5",
                     "SIZE 0", "SEED 100000", "LEVELS 0 1 1", "LEVELS 10 1 1", "LEVELS 1 0 1", "LEVELS 1 1 6",
                     "LEVELS 1 6 6", "LEVELS 1 3 2", "LEVELS 1 5 4", "TOPICS 0 A", "TOPICS 10 A", "RELEASE 0 1",
                     "RELEASE 10 1", "RELEASE 1 100000"):
            self.check_fault(line, 2, 1)

    def test_below_zero_is_no_number(self):
        for line in ("GAP -1", "SEED -0", "SEED +1", "RELEASE 1 -1", "LEVELS -1 1 1"):
            self.check_fault(line, 2, 1)

    def test_zeros_in_front_up_to_five_digits(self):
        self.check_taken("ROUNDS 00003", "ROUNDS 3")
        self.check_taken("SEED 00001", "SEED 1")
        self.check_taken("SEED 00000", "SEED 0")
        for line in ("ROUNDS 000003", "SEED 000000", "SEED 099999", "LEVELS 000001 1 1", "RELEASE 1 000000"):
            self.check_fault(line, 2, 1)

    def test_digits_alone(self):
        for name in ("ROUNDS", "OFFER", "GAP", "UNLIKE", "SIZE", "SEED"):
            self.check_fault(name + " X", 2, 1)
        for line in ("LEVELS X 1 1", "LEVELS 1 X 1", "LEVELS 1 1 X", "RELEASE X 1", "RELEASE 1 X"):
            self.check_fault(line, 2, 1)
        for line in ("ROUNDS A", "ROUNDS 1A", "ROUNDS A1", "ROUNDS 1.0", "GAP 1_0", "SEED 1/", "SEED :", "SEED /"):
            self.check_fault(line, 2, 1)
        self.check_fault(codes("SEED ") + [178], 2, 1)
        self.check_fault(codes("SEED 4") + [13], 2, 1)


class Rests(RulesCase):
    def test_how_many_words(self):
        for line in ("ROUNDS", "ROUNDS 1 1", "OFFER", "OFFER 1 2", "GAP", "GAP 0 0", "UNLIKE", "UNLIKE 1 1", "SIZE",
                     "SIZE 2 4", "SEED", "SEED 1 1", "LEVELS", "LEVELS 1", "LEVELS 1 1", "LEVELS 1 1 1 1", "TOPICS",
                     "TOPICS 1", "TOPICS A", "RELEASE", "RELEASE 1", "RELEASE 1 1 1"):
            self.check_fault(line, 2, 1)

    def test_topics(self):
        self.check_taken("TOPICS 1 ABCDEFGH A Z", "TOPICS 1 ABCDEFGH A Z")
        self.check_taken("TOPICS 1 A AA AAA", "TOPICS 1 A AA AAA")
        for line in ("TOPICS 1 ABCDEFGHI", "TOPICS 1 a", "TOPICS 1 A1", "TOPICS 1 A A", "TOPICS 1 A B C A",
                     "TOPICS 1 A @", "TOPICS 1 [", "TOPICS 1 A,B", "TOPICS 1 2", "TOPICS A A"):
            self.check_fault(line, 2, 1)

    def test_first_words(self):
        for line in ("rounds 1", "ROUND 1", "ROUNDSS 1", "X", "1", "ROUNDS1", "LEVEL 1 1 1", "TOPIC 1 A", "RELEASED 1 1",
                     "SEEDS 1", "Gap 1"):
            self.check_fault(line, 1, 1)

    def test_a_blank_is_a_byte_32_alone(self):
        self.check_fault("ROUNDS\t1", 1, 1)
        self.check_fault("\tROUNDS 1", 1, 1)
        self.check_fault("ROUNDS 1\t", 2, 1)
        self.check_fault("ROUNDS 1\r\nGAP 1", 2, 1)
        self.check_fault([0], 1, 1)
        self.check_fault([255], 1, 1)
        self.check_fault(codes("GAP") + [160] + codes("1"), 1, 1)


class Lines(RulesCase):
    def test_empty_lines_say_nothing_but_count(self):
        self.check_taken("\n\n   \nGAP 4\n\n", "GAP 4")
        self.check_fault("\n\n   \nGAP X", 2, 4)
        self.check_fault("\nX\n", 1, 2)

    def test_told_on_an_earlier_line(self):
        for line in ("ROUNDS 9", "OFFER 2", "GAP 2", "UNLIKE 0", "SIZE 4", "SEED 7"):
            self.check_fault(line + "\n" + line, 3, 2)
        self.check_fault("SEED 1\n\nGAP 2\nSEED 2", 3, 4)

    def test_told_for_that_round(self):
        for first, again in (("LEVELS 1 1 1", "LEVELS 01 2 3"), ("TOPICS 1 A", "TOPICS 1 B"),
                             ("RELEASE 1 5", "RELEASE 001 6")):
            self.check_fault(first + "\n" + again, 3, 2)
        text = "LEVELS 1 1 1\nTOPICS 1 A\nRELEASE 1 5\nLEVELS 2 1 1\nTOPICS 2 A\nRELEASE 2 5"
        self.check_taken(text, *text.split("\n"))

    def test_a_line_not_as_told_is_that_before_it_is_told_twice(self):
        self.check_fault("GAP 1\nGAP 10", 2, 2)
        self.check_fault("LEVELS 1 1 1\nLEVELS 1 3 2", 2, 2)

    def test_the_first_line_with_a_fault_counts(self):
        self.check_fault("GAP 1\nGAP 1\nX\nGAP 10", 3, 2)
        self.check_fault("GAP 1\nGAP 10\nX", 2, 2)
        self.check_fault("GAP 1\nX\nGAP 10", 1, 2)

    def test_a_round_that_there_is_not(self):
        self.check_fault("LEVELS 6 1 1", 4, 2)
        self.check_fault("TOPICS 6 A", 4, 2)
        self.check_fault("RELEASE 6 1", 4, 2)
        self.check_fault("RELEASE 6 1\n", 4, 3)
        self.check_fault("RELEASE 6 1\n\n\n", 4, 5)
        self.check_fault("ROUNDS 1\nRELEASE 1 1\nLEVELS 2 1 5", 4, 4)
        self.check_fault("LEVELS 9 1 1\nROUNDS 8", 4, 3)

    def test_rounds_may_stand_behind(self):
        self.check_taken("RELEASE 9 1\nLEVELS 6 1 1\nTOPICS 7 A\nROUNDS 9", "RELEASE 9 1")
        self.check_taken("RELEASE 5 1", "RELEASE 5 1")

    def test_other_faults_count_before_a_round_that_there_is_not(self):
        self.check_fault("RELEASE 6 1\nGAP 1\nX", 1, 3)
        self.check_fault("RELEASE 6 1\nGAP", 2, 2)
        self.check_fault("RELEASE 6 1\nRELEASE 6 2", 3, 2)


class Refusals(RulesCase):
    def test_how_long_a_text_may_be(self):
        self.assertEqual(last(rules(" " * 1493 + "ROUNDS1")), [1, 1, 1])
        self.assertEqual(last(rules(" " * 1492 + "ROUNDS 2")), [0, 2, 3, 4])
        self.assertEqual(last(rules("\n" * 1500)), [0, 5, 3, 4])
        self.check_refused([rules("GAP 3")], rules(" " * 1501), -1)
        self.check_refused([rules("GAP 3")], rules("X" + " " * 1500), -1)
        self.check_refused([rules("GAP 3")], rules([-HUGE] * 1600), -1)

    def test_numbers_that_are_no_bytes(self):
        for number in (-1, 256, -HUGE, HUGE):
            self.check_refused([rules("GAP 3")], rules([number]), -1)
            self.check_refused([], rules(codes("GAP 0\n") + [number]), -1)
            self.check_refused([], rules(codes("X\n") + [number]), -1)

    def test_there_is_a_motion_a_round_or_now_is_not_0(self):
        with_round = [rules("OFFER 1\nRELEASE 1 9"), motion(), choose()]
        for before in ([motion()], with_round, [now(1)]):
            self.check_refused(before, rules("GAP 3"), -3)
            self.check_refused(before, rules("X"), -3)
            self.check_refused(before, rules("RELEASE 6 1"), -3)
            self.check_refused(before, rules([256]), -1)
            self.check_refused(before, rules(" " * 1501), -1)

    def test_now_told_as_0_and_a_refused_motion_hinder_nothing(self):
        self.check([now(0), motion(6), choose(), rules("GAP 3")], [0, 5, 3, 4])


class WhatHolds(HouseCase):
    def test_defaults_in_choosing(self):
        many = topics("A B C D E F G H I J K L M N O P")
        self.check(many + [choose()] * 6, [1], [2], [3], [4], [5], [-9])
        chosen = rounds_at_last(*many, *[choose()] * 5)
        self.assertEqual([len(numbers) for numbers in chosen.values()], [3] * 5)
        self.assertEqual(rounds_at_last(*many, choose()),
                         rounds_at_last(rules("SEED 0\nLEVELS 1 1 5\nRELEASE 1 0"), *many, choose()))

    def test_rules_with_a_fault_hold_nothing(self):
        self.check([rules("OFFER 1\nX"), motion(), choose()], [-7])
