"""The calls now and see: releases, clocks and zones."""

from tests.support import (HUGE, HouseCase, ask, appeal, choose, last, motion, now, rules, see, topics, undo)

# Rounds 1 to 3 of the motions 1 to 3, each known by its level.
THREE = [rules("OFFER 1\nGAP 0\nLEVELS 1 1 1\nLEVELS 2 2 2\nLEVELS 3 3 3\nRELEASE 1 60\nRELEASE 3 30"), motion(1), motion(2),
         motion(3), choose(), choose(), choose()]


class Now(HouseCase):
    def test_how_many_rounds_are_released(self):
        self.check(THREE + [now(0), now(29), now(30), now(31), now(59), now(60), now(61)],
                   [1], [1], [2], [2], [2], [3], [3])

    def test_only_rounds_there_are_count(self):
        self.assertEqual(last(now(5)), [0])
        self.check(THREE[:4] + [now(100), choose(), now(100), choose(), now(100)], [0], [1], [1], [2], [2])

    def test_a_release_of_0_is_as_soon_as_chosen(self):
        for text in ("OFFER 1", "OFFER 1\nRELEASE 1 0"):
            self.check([rules(text), motion(), now(0), choose(), now(0), see(0, 0)], [0], [1], [1], [1, 2, 1, 1])

    def test_the_range_is_from_now_on_to_200000(self):
        self.check([now(0), now(7), now(7), now(200000), now(200000)], [0], [0], [0], [0], [0])
        for minute in (6, 0, -1, 200001, HUGE, -HUGE):
            self.check_refused(THREE + [now(7)], now(minute), -1)
        self.check_refused([], now(-1), -1)
        self.check_refused([now(200000)], now(199999), -1)
        self.check_refused([now(200000)], now(200001), -1)

    def test_the_latest_release(self):
        before = [rules("OFFER 1\nRELEASE 1 99999"), motion(), choose()]
        self.check(before + [now(99998), see(0, 99998), now(99999), see(0, 99999)], [0], [0], [1], [1, 2, 1, 1])


class Released(HouseCase):
    def test_appeal_and_undo_ahead_of_at_and_behind_the_release(self):
        before = [rules("OFFER 1\nRELEASE 1 60"), motion(), motion(), choose()]
        chosen = last(*before, now(60), see(0, 60))[3]
        for minute in (0, 59):
            self.check(before + [now(minute), appeal(1, chosen)], [0])
            self.check(before + [now(minute), undo()], [0])
        for minute in (60, 61, 200000):
            self.check_refused(before + [now(minute)], appeal(1, chosen), -4)
            self.check_refused(before + [now(minute)], undo(), -4)

    def test_each_round_has_its_own_release(self):
        self.check(THREE + [now(30), undo()], [-4])
        self.check(THREE + [now(29), undo(), undo()], [2], [-4])
        self.check([rules("OFFER 1\nRELEASE 2 9")] + topics("A B C") + [choose(), choose(), undo(), undo()], [1], [-4])


class See(HouseCase):
    def test_nothing_to_see(self):
        self.assertEqual(last(see(0, 0)), [0])
        self.assertEqual(last(*topics("A B C"), see(0, 0)), [0])

    def test_rows_are_the_round_and_its_motions(self):
        two = [rules("OFFER 2\nGAP 0\nLEVELS 1 1 1\nLEVELS 2 2 2\nRELEASE 2 10")]
        two += topics("A B") + topics("C D", 2) + [choose(), choose(), now(10)]
        first = last(*two, see(0, 9))
        self.assertEqual(first[:3], [1, 3, 1])
        self.assertEqual(sorted(first[3:]), [1, 2])
        both = last(*two, see(0, 10))
        self.assertEqual(both[:5], [2] + first[1:])
        self.assertEqual(both[5:7], [3, 2])
        self.assertEqual(sorted(both[7:]), [3, 4])

    def test_rounds_released_out_of_order(self):
        self.check(THREE + [now(60), see(0, 29), see(0, 30), see(0, 59), see(0, 60)],
                   [1, 2, 2, 2], [2, 2, 2, 2, 2, 3, 3], [2, 2, 2, 2, 2, 3, 3], [3, 2, 1, 1, 2, 2, 2, 2, 3, 3])

    def test_a_minute_that_has_not_come(self):
        self.check_refused(THREE, see(0, 1), -4)
        self.check_refused(THREE + [now(60)], see(0, 61), -4)
        self.check_refused(THREE + [now(59)], see(0, 60), -4)

    def test_zones_above_and_below_0(self):
        self.check(THREE + [now(60), see(60, 120), see(60, 119), see(-60, 0), see(-60, -1), see(60, 121), see(-60, 1)],
                   [3, 2, 1, 1, 2, 2, 2, 2, 3, 3], [2, 2, 2, 2, 2, 3, 3],
                   [3, 2, 1, 1, 2, 2, 2, 2, 3, 3], [2, 2, 2, 2, 2, 3, 3], [-4], [-4])

    def test_a_clock_ahead_shows_nobody_a_round_too_early(self):
        self.check(THREE + [now(59), see(900, 959), see(900, 960)], [2, 2, 2, 2, 2, 3, 3], [-4])

    def test_ahead_of_the_worlds_minute_0_nothing_is_seen(self):
        before = [rules("OFFER 1"), motion(), choose()]
        self.check(before + [see(0, 0), see(0, -1), see(1, 0), see(-1, -1), see(-1, -2), see(900, 900), see(900, 899)],
                   [1, 2, 1, 1], [0], [0], [1, 2, 1, 1], [0], [1, 2, 1, 1], [0])

    def test_the_range_of_zones(self):
        self.check([now(200000), see(900, 0), see(-900, 0)], [0], [0])
        for zone in (901, -901, HUGE, -HUGE):
            self.check_refused(THREE + [now(200000)], see(zone, 0), -1)

    def test_the_range_of_minutes(self):
        self.check([now(200000), see(0, -1000), see(900, -1000), see(-900, -1000)], [0], [0], [0])
        self.check([now(200000), see(900, 200900), see(900, 200901), see(900, 201000), see(0, 201000)],
                   [0], [-4], [-4], [-4])
        for minute in (-1001, 201001, HUGE, -HUGE):
            for zone in (0, 900, -900):
                self.check_refused(THREE + [now(200000)], see(zone, minute), -1)

    def test_out_of_range_counts_before_not_come(self):
        self.check_refused(THREE, see(0, 201001), -1)
        self.check_refused(THREE, see(-901, 100), -1)

    def test_seeing_changes_nothing(self):
        answered = ask(*THREE, now(60), see(0, 60), see(0, 60), see(60, 119), see(0, 60))
        self.assertEqual(answered[-1], answered[-3])
        self.assertEqual(answered[-1], answered[-4])

    def test_example(self):
        before = [rules("OFFER 2\nLEVELS 1 1 3\nRELEASE 1 60"), motion(1, "A"), motion(2, "A"), motion(3, "B"),
                  motion(4, "C"), choose(), now(60)]
        self.check(before + [see(60, 119), see(60, 120)], [0], [1, 3, 1, 3, 2])
        self.check(before[:-1] + [now(59), see(60, 119), see(60, 120)], [0], [-4])
