"""The calls choose, appeal and undo."""

from tests.support import (HUGE, HouseCase, ask, appeal, choose, last, motion, now, restore, rounds_at_last, rules, see,
                           strike, topics, undo)

LATE = "".join("\nRELEASE %d 100" % stage for stage in range(1, 6))


def opened(text, names):
    """Rules of five rounds that are all released at 100, and a motion of each topic."""
    return [rules(text + LATE)] + topics(names)


class Lots(HouseCase):
    """The lots here were worked out apart from the program."""

    def check_lot(self, seed, count, lot):
        text = "UNLIKE 0\nOFFER %d\nSEED %d" % (count, seed)
        self.assertEqual(rounds_at_last(rules(text), *[motion()] * count, choose()), {1: lot})

    def test_first_rounds(self):
        self.check_lot(0, 4, [3, 2, 4, 1])
        self.check_lot(0, 5, [4, 3, 1, 5, 2])
        self.check_lot(1, 5, [2, 5, 3, 4, 1])
        self.check_lot(7, 5, [3, 1, 4, 5, 2])
        self.check_lot(99999, 5, [4, 2, 5, 3, 1])
        self.check_lot(0, 3, [3, 1, 2])
        self.check_lot(0, 2, [1, 2])
        self.check_lot(0, 1, [1])

    def test_later_rounds(self):
        # 9 5 2 6 3 1 8 7 10 4 is the lot of round 3, 9 2 6 8 3 5 4 10 7 1 that of round 2.
        text = "SEED 12\nOFFER 3\nGAP 0\nLEVELS 1 1 1\nLEVELS 2 2 2\nLEVELS 3 3 3"
        motions = [motion(level, topic) for level in (1, 2, 3) for topic in ("A", "B", "C")] + [motion(5, "D")]
        self.assertEqual(rounds_at_last(rules(text), *motions, choose(), choose(), choose()),
                         {1: [1, 2, 3], 2: [6, 5, 4], 3: [9, 8, 7]})

    def test_forty_motions(self):
        lot = [39, 26, 6, 16, 22, 32, 31, 34, 24, 33]
        text = "OFFER 5\nUNLIKE 0"
        self.assertEqual(rounds_at_last(rules(text), *[motion()] * 40, choose()), {1: lot[:5]})
        struck = [strike(number) for number in lot[:5]]
        self.assertEqual(rounds_at_last(rules(text), *[motion()] * 40, *struck, choose()), {1: lot[5:]})

    def test_example(self):
        before = [rules("OFFER 2\nLEVELS 1 1 3\nRELEASE 1 60"), motion(1, "A"), motion(2, "A"), motion(3, "B"), motion(4, "C")]
        self.assertEqual(rounds_at_last(*before, choose()), {1: [3, 2]})


class Choose(HouseCase):
    def test_rounds_are_numbered_till_there_are_enough(self):
        before = [rules("OFFER 1\nROUNDS 2\nGAP 0")] + topics("A B C")
        self.check(before + [choose(), choose(), choose()], [1], [2], [-9])
        self.check_refused(before + [choose(), choose()], choose(), -9)

    def test_enough_rounds_count_before_not_enough_motions(self):
        self.check_refused([rules("OFFER 1\nROUNDS 1"), motion(), choose()], choose(), -9)

    def test_nine_rounds(self):
        before = [rules("OFFER 1\nROUNDS 9")] + topics("A B C D E F G H I J")
        self.check(before + [choose()] * 10, *[[stage] for stage in range(1, 10)], [-9])

    def test_not_enough_motions(self):
        self.check_refused([], choose(), -7)
        self.check_refused(topics("A B"), choose(), -7)
        self.check_refused([rules("OFFER 5")] + topics("A B C D"), choose(), -7)
        self.check([rules("OFFER 5")] + topics("A B C D") + [choose(), motion(1, "E"), choose()], [-7], [5], [1])

    def test_what_is_offered_before_is_not_offered_again(self):
        before = [rules("OFFER 1\nGAP 0\nROUNDS 9"), motion(), motion()]
        self.check(before + [choose()] * 3, [1], [2], [-7])
        self.assertEqual(sorted(rounds_at_last(*before, choose(), choose()).values()), [[1], [2]])

    def test_unlike(self):
        self.check_refused([rules("OFFER 2\nUNLIKE 1"), motion(), motion()], choose(), -7)
        self.check_refused([rules("OFFER 2"), motion(), motion()], choose(), -7)
        self.check([rules("OFFER 2\nUNLIKE 0"), motion(), motion(), choose()], [1])
        # The lot is 3 2 4 1.
        self.assertEqual(rounds_at_last(rules("OFFER 2"), *topics("B A A A"), choose()), {1: [3, 1]})
        self.assertEqual(rounds_at_last(rules("OFFER 2\nUNLIKE 0"), *topics("B A A A"), choose()), {1: [3, 2]})

    def test_topics_are_unlike_as_a_whole(self):
        self.check([rules("OFFER 3")] + topics("A AA AB") + [choose()], [1])

    def test_levels(self):
        motions = [motion(level, topic) for level, topic in ((1, "A"), (2, "B"), (3, "C"), (4, "D"), (5, "E"))]
        # The lot is 4 3 1 5 2.
        self.assertEqual(rounds_at_last(rules("OFFER 3\nLEVELS 1 2 4"), *motions, choose()), {1: [4, 3, 2]})
        self.assertEqual(rounds_at_last(rules("OFFER 1\nLEVELS 1 5 5"), *motions, choose()), {1: [5]})
        self.assertEqual(rounds_at_last(rules("OFFER 1\nLEVELS 1 1 1"), *motions, choose()), {1: [1]})
        self.assertEqual(rounds_at_last(rules("OFFER 5\nLEVELS 2 1 1"), *motions, choose()), {1: [4, 3, 1, 5, 2]})
        self.check_refused([rules("OFFER 4\nLEVELS 1 2 4")] + motions, choose(), -7)

    def test_topics(self):
        motions = topics("A B AB C A")
        # The lot is 4 3 1 5 2.
        self.assertEqual(rounds_at_last(rules("OFFER 2\nTOPICS 1 B A"), *motions, choose()), {1: [1, 2]})
        self.assertEqual(rounds_at_last(rules("OFFER 1\nTOPICS 1 AB"), *motions, choose()), {1: [3]})
        self.assertEqual(rounds_at_last(rules("OFFER 1\nTOPICS 2 B"), *motions, choose()), {1: [4]})
        self.check_refused([rules("OFFER 1\nTOPICS 1 X BA")] + motions, choose(), -7)

    def test_gap(self):
        rounds = "OFFER 1\nTOPICS 1 A\nTOPICS 2 B\nTOPICS 3 C\nTOPICS 4 A"
        before = topics("A B C A") + [choose()] * 3
        for gap in (0, 1, 2):
            self.check([rules(rounds + "\nGAP %d" % gap)] + before + [choose()], [4])
        for gap in (3, 4, 9):
            self.check_refused([rules(rounds + "\nGAP %d" % gap)] + before, choose(), -7)

    def test_gap_of_0_1_and_the_default(self):
        self.check([rules("OFFER 1\nGAP 0"), motion(), motion(), choose(), choose()], [1], [2])
        self.check([rules("OFFER 1\nGAP 1"), motion(), motion(), choose(), choose()], [1], [-7])
        self.check([rules("OFFER 1"), motion(), motion(), choose(), choose()], [1], [-7])

    def test_all_topics_of_a_round_rest(self):
        before = [rules("OFFER 2\nTOPICS 1 A B\nUNLIKE 0")] + topics("A B A B C D") + [choose()]
        # The lot of round 2 is 3 4 6 5 2 1.
        self.assertEqual(rounds_at_last(*before, choose())[2], [6, 5])

    def test_gap_counts_with_unlike_0(self):
        self.check([rules("OFFER 2\nUNLIKE 0")] + [motion()] * 4 + [choose(), choose()], [1], [-7])
        self.check([rules("OFFER 2\nUNLIKE 0\nGAP 0")] + [motion()] * 4 + [choose(), choose()], [1], [2])

    def test_a_struck_one_in_a_round_lets_its_topic_rest(self):
        self.check([rules("OFFER 1"), motion(), motion(), strike(2), choose(), restore(2), strike(1), choose()], [-7])


class Appeal(HouseCase):
    def test_the_first_by_lot_takes_its_place(self):
        # The lot is 3 5 2 4 6 1.
        before = opened("OFFER 3", "A B C D E F") + [choose()]
        self.assertEqual(rounds_at_last(*before), {1: [3, 5, 2]})
        self.assertEqual(last(*before, appeal(1, 3)), [0])
        self.assertEqual(rounds_at_last(*before, appeal(1, 3)), {1: [4, 5, 2]})
        self.assertEqual(rounds_at_last(*before, appeal(1, 5)), {1: [3, 4, 2]})
        self.assertEqual(rounds_at_last(*before, appeal(1, 2)), {1: [3, 5, 4]})

    def test_a_replaced_motion_is_free_again(self):
        before = opened("OFFER 3", "A B C D E F") + [choose(), appeal(1, 5)]
        self.assertEqual(rounds_at_last(*before, appeal(1, 4)), {1: [3, 5, 2]})
        self.assertEqual(rounds_at_last(*before, appeal(1, 3)), {1: [5, 4, 2]})
        self.check_refused(before, appeal(1, 5), -6)
        # The lot of round 2 is 3 4 6 5 2 1.
        self.assertEqual(rounds_at_last(*before, choose()), {1: [3, 4, 2], 2: [6, 5, 1]})

    def test_the_topic_of_a_replaced_motion_rests_no_more(self):
        before = opened("OFFER 1\nLEVELS 1 1 1", "A B") + [motion(2, "A"), strike(2), choose(), restore(2)]
        self.assertEqual(rounds_at_last(*before), {1: [1]})
        self.check_refused(before + [strike(2)], choose(), -7)
        self.assertEqual(rounds_at_last(*before, appeal(1, 1), choose())[1], [2])
        self.assertIn(rounds_at_last(*before, appeal(1, 1), choose())[2], ([1], [3]))

    def test_no_such_round(self):
        before = opened("OFFER 1", "A B") + [choose()]
        for stage in (0, 2, 5, -1, HUGE, -HUGE):
            self.check_refused(before, appeal(stage, 1), -6)
        self.check_refused(opened("OFFER 1", "A B"), appeal(1, 1), -6)

    def test_released(self):
        before = opened("OFFER 1", "A B") + [choose()]
        self.check_refused(before + [now(100)], appeal(1, 1), -4)
        self.check_refused([rules("OFFER 1")] + topics("A B") + [choose()], appeal(1, 1), -4)

    def test_it_has_not_that_motion(self):
        # The lot of round 1 is 3 1 2.
        before = opened("OFFER 1", "A B C") + [choose(), choose()]
        self.assertEqual(rounds_at_last(*before), {1: [3], 2: [2]})
        for number in (0, 1, 2, 4, -1, HUGE, -HUGE):
            self.check_refused(before, appeal(1, number), -6)

    def test_the_first_refusal_counts(self):
        before = opened("OFFER 1", "A") + [choose()]
        self.check_refused(before + [now(100)], appeal(2, 1), -6)
        self.check_refused(before + [now(100)], appeal(1, 2), -4)
        self.check_refused(before + [now(100)], appeal(1, 1), -4)
        self.check_refused(before, appeal(1, 2), -6)
        self.check_refused(before, appeal(1, 1), -7)

    def test_none_may_take_its_place(self):
        self.check_refused(opened("OFFER 2", "A B") + [choose()], appeal(1, 1), -7)
        self.check(opened("OFFER 2", "A B C") + [strike(3), choose(), appeal(1, 1), restore(3), appeal(1, 1)], [-7], [0], [0])

    def test_unlike_topics_of_the_others(self):
        # Chosen are 1 and 2, 3 is the one left.
        for text, answer in (("UNLIKE 1", -7), ("UNLIKE 0", 0)):
            before = opened("OFFER 2\n" + text, "A B B") + [strike(3), choose(), restore(3)]
            self.assertEqual(last(*before, appeal(1, 1)), [answer])
            self.assertEqual(last(*before, appeal(1, 2)), [0])

    def test_the_topic_of_the_replaced_one_may_stand_again(self):
        before = opened("OFFER 2", "A B B") + [strike(3), choose(), restore(3)]
        places = rounds_at_last(*before)[1]
        replaced = [3 if number == 2 else number for number in places]
        self.assertEqual(rounds_at_last(*before, appeal(1, 2)), {1: replaced})

    def test_levels_and_topics_of_the_round(self):
        for text in ("LEVELS 1 2 3", "TOPICS 1 A B"):
            before = [rules("OFFER 1\n" + text + LATE), motion(2, "A"), motion(1, "C"), motion(4, "C"), motion(3, "B"),
                      strike(4), choose(), restore(4)]
            self.assertEqual(rounds_at_last(*before, appeal(1, 1)), {1: [4]})
            self.check_refused(before + [strike(4)], appeal(1, 1), -7)

    def test_struck_ones_take_no_place(self):
        before = opened("OFFER 1", "A B") + [strike(2), choose()]
        self.check_refused(before, appeal(1, 1), -7)
        self.check(before + [restore(2), strike(1), appeal(1, 1), appeal(1, 2)], [0], [-7])

    def test_one_of_a_round_before_or_behind_takes_no_place(self):
        rounds = "OFFER 1\nGAP 0\nLEVELS 1 1 1\nLEVELS 2 1 2\nLEVELS 3 1 3"
        before = [rules(rounds + LATE), motion(1, "A"), motion(2, "B"), motion(3, "C"), choose(), choose(), choose()]
        self.assertEqual(rounds_at_last(*before), {1: [1], 2: [2], 3: [3]})
        for number in (1, 2, 3):
            self.check_refused(before, appeal(number, number), -7)
        self.check_refused([rules("OFFER 1\nGAP 0" + LATE), motion(), motion(), choose(), choose()], appeal(1, 1), -7)

    def check_gap(self, stage, spare, refusing):
        """Rounds of the topics A to E, parted by levels: may one more, of that topic, stand in the round?"""
        rounds = "".join("\nLEVELS %d %d %d" % (level, level, level) for level in range(1, 6))
        motions = [motion(level, topic) for level, topic in enumerate("ABCDE", 1)] + [motion(stage, spare), strike(6)]
        for gap in range(10):
            text = "OFFER 1\nGAP %d" % gap + rounds + LATE
            before = [rules(text)] + motions + [choose()] * 5 + [restore(6)]
            self.assertEqual(rounds_at_last(*before), {at: [at] for at in range(1, 6)})
            if gap in refusing:
                self.check_refused(before, appeal(stage, stage), -7)
            else:
                self.assertEqual(rounds_at_last(*before, appeal(stage, stage))[stage], [6])

    def test_gap_rounds_before(self):
        self.check_gap(2, "A", range(1, 10))
        self.check_gap(3, "A", range(2, 10))
        self.check_gap(5, "A", range(4, 10))
        self.check_gap(3, "B", range(1, 10))

    def test_gap_rounds_behind(self):
        self.check_gap(1, "B", range(1, 10))
        self.check_gap(3, "E", range(2, 10))
        self.check_gap(1, "E", range(4, 10))
        self.check_gap(3, "D", range(1, 10))

    def test_its_own_topic_hinders_nothing(self):
        self.check_gap(3, "C", ())
        self.check_gap(3, "X", ())

    def test_rounds_that_come_later_bar_nothing(self):
        before = opened("OFFER 1\nGAP 9\nTOPICS 2 B", "A B B") + [strike(2), strike(3), choose(), restore(2), restore(3)]
        self.check(before + [appeal(1, 1)], [0])
        self.check_refused(before + [choose()], appeal(1, 1), -7)

    def test_a_released_round_behind_does_not_hinder(self):
        before = [rules("OFFER 1\nRELEASE 1 50")] + topics("A B C D") + [choose(), choose()]
        offered = rounds_at_last(*before)
        self.check(before + [appeal(2, offered[2][0]), appeal(1, offered[1][0])], [-4], [0])
        self.assertEqual(rounds_at_last(*before, appeal(1, offered[1][0]))[2], offered[2])


class Undo(HouseCase):
    def test_how_many_rounds_there_are_then(self):
        before = opened("OFFER 1", "A B C") + [choose()] * 3
        self.check(before + [undo(), undo(), undo(), undo()], [2], [1], [0], [-6])
        self.assertEqual(list(rounds_at_last(*before, undo())), [1, 2])

    def test_refusals(self):
        self.check_refused([], undo(), -6)
        self.check_refused(opened("OFFER 1", "A B C"), undo(), -6)
        self.check_refused(opened("OFFER 1", "A B C") + [choose(), now(100)], undo(), -4)
        self.check_refused([rules("OFFER 1"), motion(), choose()], undo(), -4)

    def test_chosen_again_it_has_the_same_lot(self):
        before = opened("OFFER 2\nGAP 0\nSEED 5", "A B C D E F") + [choose(), choose()]
        self.assertEqual(rounds_at_last(*before, undo(), choose()), rounds_at_last(*before))
        self.assertEqual(rounds_at_last(*before, undo(), undo(), choose(), choose()), rounds_at_last(*before))

    def test_an_appeal_is_gone_with_its_round(self):
        before = opened("OFFER 3", "A B C D E F") + [choose()]
        self.assertEqual(rounds_at_last(*before, appeal(1, 5), undo(), choose()), {1: [3, 5, 2]})

    def test_its_motions_and_topics_are_free_again(self):
        before = opened("OFFER 1\nTOPICS 1 A\nTOPICS 2 A B\nGAP 0", "A A") + [choose(), choose()]
        offered = rounds_at_last(*before)
        self.assertEqual(rounds_at_last(*before, undo(), appeal(1, offered[1][0])), {1: offered[2]})

    def test_struck_between_it_is_chosen_otherwise(self):
        # The lot is 3 5 2 4 6 1.
        before = opened("OFFER 3", "A B C D E F") + [choose(), undo(), strike(5)]
        self.assertEqual(rounds_at_last(*before, choose()), {1: [3, 2, 4]})

    def test_one_more_motion_makes_another_lot(self):
        before = opened("OFFER 3", "A B C") + [choose(), undo()] + topics("D")
        self.assertEqual(rounds_at_last(*before, choose()), {1: [3, 2, 4]})

    def test_a_round_may_be_chosen_again_up_to_rounds(self):
        before = [rules("OFFER 1\nROUNDS 1\nRELEASE 1 9"), motion(), choose()]
        self.check(before + [choose(), undo(), choose(), choose()], [-9], [0], [1], [-9])

    def test_seen_no_more(self):
        before = opened("OFFER 1\nGAP 0", "A B") + [choose(), undo(), now(100), see(0, 100)]
        self.assertEqual(ask(*before)[-2:], [[0], [0]])
