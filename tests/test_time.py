"""The calls now, see and read: releases, clocks and zones."""

from tests.support import (HUGE, HouseCase, ask, appeal, choose, clear, last, lot, motion, now, read, row, rules, see, strike, topics,
                           undo)

# Rounds 1 to 3 of the motions 1 to 3, each known by its level.
THREE = [rules("OFFER 1\nGAP 0\nLEVELS 1 1 1\nLEVELS 2 2 2\nLEVELS 3 3 3\nRELEASE 1 60\nRELEASE 3 30"), motion(1), motion(2),
         motion(3), choose(), choose(), choose()]


class Now(HouseCase):
    def test_how_many_rounds_are_released(self):
        self.check(THREE + [now(0), now(29), now(30), now(31), now(59), now(60), now(61)],
                   [1], [1], [2], [2], [2], [3], [3])

    def test_only_rounds_there_are_count(self):
        self.assertEqual(last(now(5)), [0])
        self.check(THREE[:4] + [now(100), choose(), now(100), choose(), now(100)], [0], [1], [1], [2], [2])

    def test_a_release_of_0_is_as_soon_as_chosen(self):
        for text in ("OFFER 1", "OFFER 1\nRELEASE 1 0"):
            self.check([rules(text), motion(), now(0), choose(), now(0), see(0, 0)], [0], [1], [1], [1, 2, 1, 1])

    def test_the_range_is_from_now_on_to_200000(self):
        self.check([now(0), now(7), now(7), now(200000), now(200000)], [0], [0], [0], [0], [0])
        for minute in (6, 0, -1, 200001, HUGE, -HUGE):
            self.check_refused(THREE + [now(7)], now(minute), -1)
        self.check_refused([], now(-1), -1)
        self.check_refused([now(200000)], now(199999), -1)
        self.check_refused([now(200000)], now(200001), -1)

    def test_the_latest_release(self):
        before = [rules("OFFER 1\nRELEASE 1 99999"), motion(), choose()]
        self.check(before + [now(99998), see(0, 99998), now(99999), see(0, 99999)], [0], [0], [1], [1, 2, 1, 1])


class Released(HouseCase):
    def test_appeal_and_undo_ahead_of_at_and_behind_the_release(self):
        before = [rules("OFFER 1\nRELEASE 1 60"), motion(), motion(), choose()]
        chosen = last(*before, now(60), see(0, 60))[3]
        for minute in (0, 59):
            self.check(before + [now(minute), appeal(1, chosen)], [0])
            self.check(before + [now(minute), undo()], [0])
        for minute in (60, 61, 200000):
            self.check_refused(before + [now(minute)], appeal(1, chosen), -4)
            self.check_refused(before + [now(minute)], undo(), -4)

    def test_each_round_has_its_own_release(self):
        self.check(THREE + [now(30), undo()], [-4])
        self.check(THREE + [now(29), undo(), undo()], [2], [-4])
        self.check([rules("OFFER 1\nRELEASE 2 9")] + topics("A B C") + [choose(), choose(), undo(), undo()], [1], [-4])


class See(HouseCase):
    def test_nothing_to_see(self):
        self.assertEqual(last(see(0, 0)), [0])
        self.assertEqual(last(*topics("A B C"), see(0, 0)), [0])

    def test_rows_are_the_round_and_its_motions(self):
        two = [rules("OFFER 2\nGAP 0\nLEVELS 1 1 1\nLEVELS 2 2 2\nRELEASE 2 10")]
        two += topics("A B") + topics("C D", 2) + [choose(), choose(), now(10)]
        first = last(*two, see(0, 9))
        self.assertEqual(first[:3], [1, 3, 1])
        self.assertEqual(sorted(first[3:]), [1, 2])
        both = last(*two, see(0, 10))
        self.assertEqual(both[:5], [2] + first[1:])
        self.assertEqual(both[5:7], [3, 2])
        self.assertEqual(sorted(both[7:]), [3, 4])

    def test_rounds_released_out_of_order(self):
        self.check(THREE + [now(60), see(0, 29), see(0, 30), see(0, 59), see(0, 60)],
                   [1, 2, 2, 2], [2, 2, 2, 2, 2, 3, 3], [2, 2, 2, 2, 2, 3, 3], [3, 2, 1, 1, 2, 2, 2, 2, 3, 3])

    def test_a_minute_that_has_not_come(self):
        self.check_refused(THREE, see(0, 1), -4)
        self.check_refused(THREE + [now(60)], see(0, 61), -4)
        self.check_refused(THREE + [now(59)], see(0, 60), -4)

    def test_zones_above_and_below_0(self):
        self.check(THREE + [now(60), see(60, 120), see(60, 119), see(-60, 0), see(-60, -1), see(60, 121), see(-60, 1)],
                   [3, 2, 1, 1, 2, 2, 2, 2, 3, 3], [2, 2, 2, 2, 2, 3, 3],
                   [3, 2, 1, 1, 2, 2, 2, 2, 3, 3], [2, 2, 2, 2, 2, 3, 3], [-4], [-4])

    def test_a_clock_ahead_shows_nobody_a_round_too_early(self):
        self.check(THREE + [now(59), see(900, 959), see(900, 960)], [2, 2, 2, 2, 2, 3, 3], [-4])

    def test_ahead_of_the_worlds_minute_0_nothing_is_seen(self):
        before = [rules("OFFER 1"), motion(), choose()]
        self.check(before + [see(0, 0), see(0, -1), see(1, 0), see(-1, -1), see(-1, -2), see(900, 900), see(900, 899)],
                   [1, 2, 1, 1], [0], [0], [1, 2, 1, 1], [0], [1, 2, 1, 1], [0])

    def test_the_range_of_zones(self):
        self.check([now(200000), see(900, 0), see(-900, 0)], [0], [0])
        for zone in (901, -901, HUGE, -HUGE):
            self.check_refused(THREE + [now(200000)], see(zone, 0), -1)

    def test_the_range_of_minutes(self):
        self.check([now(200000), see(0, -1000), see(900, -1000), see(-900, -1000)], [0], [0], [0])
        self.check([now(200000), see(900, 200900), see(900, 200901), see(900, 201000), see(0, 201000)],
                   [0], [-4], [-4], [-4])
        for minute in (-1001, 201001, HUGE, -HUGE):
            for zone in (0, 900, -900):
                self.check_refused(THREE + [now(200000)], see(zone, minute), -1)

    def test_out_of_range_counts_before_not_come(self):
        self.check_refused(THREE, see(0, 201001), -1)
        self.check_refused(THREE, see(-901, 100), -1)

    def test_seeing_changes_nothing(self):
        answered = ask(*THREE, now(60), see(0, 60), see(0, 60), see(60, 119), see(0, 60))
        self.assertEqual(answered[-1], answered[-3])
        self.assertEqual(answered[-1], answered[-4])

    def test_example(self):
        before = [rules("OFFER 2\nLEVELS 1 1 3\nRELEASE 1 60"), motion(1, "A"), motion(2, "A"), motion(3, "B"),
                  motion(4, "C"), choose(), now(60)]
        self.check(before + [see(60, 119), see(60, 120)], [0], [1, 3, 1, 3, 2])
        self.check(before[:-1] + [now(59), see(60, 119), see(60, 120)], [0], [-4])


# Round 1 of the motions 3 5 2, released at 60; now is 60.
TEXTS = [motion(level, topic, text) for level, topic, text in (
    (1, "A", "one"), (2, "BB", "two and more"), (3, "CCC", ""), (4, "D", "four"), (5, "EIGHTEEN", [0, 10, 255]),
    (1, "F", "x"))]
LATE = [rules("OFFER 3\nRELEASE 1 60")] + TEXTS + [choose()]
OPEN = LATE + [now(60)]
THIRD = [3, 3] + row("CCC") + row("")
FIFTH = [5, 5] + row("EIGHTEEN") + row([0, 10, 255])
SECOND = [2, 2] + row("BB") + row("two and more")


class Read(HouseCase):
    def test_the_motion_its_level_topic_and_text(self):
        self.check(OPEN + [read(1, 0, 0, 60), read(1, 1, 0, 60), read(1, 2, 0, 60)], THIRD, FIFTH, SECOND)

    def test_the_longest_text(self):
        text = [number % 256 for number in range(200, 300)]
        before = [rules("OFFER 1"), motion(2, "ABCDEFGH", text), choose()]
        self.check(before + [read(1, 0, 0, 0)], [1, 2, 8] + list(range(65, 73)) + [100] + text)

    def test_behind_an_appeal_and_though_struck_out(self):
        # By the lot of round 1 motion 4 is next.
        self.check(LATE + [appeal(1, 5), now(60), read(1, 1, 0, 60)], [4, 4] + row("D") + row("four"))
        self.check(OPEN + [strike(3), read(1, 0, 0, 60)], THIRD)

    def test_of_each_round(self):
        self.check(THREE + [now(60), read(1, 0, 0, 60), read(2, 0, 0, 0), read(3, 0, 0, 30)],
                   [1, 1, 1, 65, 0], [2, 2, 1, 65, 0], [3, 3, 1, 65, 0])
        self.check(THREE + [now(60), read(1, 0, 0, 59), read(3, 0, 0, 29), read(3, 0, 0, 59)], [-4], [-4], [3, 3, 1, 65, 0])

    def test_no_such_round(self):
        for stage in (0, 2, -1, 9, HUGE, -HUGE):
            self.check_refused(OPEN, read(stage, 0, 0, 60), -6)
        self.check_refused([], read(1, 0, 0, 0), -6)
        self.check_refused(OPEN[:7], read(1, 0, 0, 0), -6)
        self.check(OPEN + [clear(), read(1, 0, 0, 0)], [-6])

    def test_no_such_place(self):
        for place in (3, 4, -1, -2, -3, -4, HUGE, -HUGE):
            self.check_refused(OPEN, read(1, place, 0, 60), -6)
        self.check([rules("OFFER 1"), motion(), choose(), read(1, 0, 0, 0), read(1, 1, 0, 0)], [1, 1, 1, 65, 0], [-6])

    def test_ahead_of_the_release(self):
        for minute in (59, 0, -1, -1000):
            self.check_refused(OPEN, read(1, 0, 0, minute), -4)
        self.check(LATE + [now(61), read(1, 0, 0, 59), read(1, 0, 0, 60), read(1, 0, 0, 61)], [-4], THIRD, THIRD)

    def test_a_minute_that_has_not_come(self):
        self.check_refused(OPEN, read(1, 0, 0, 61), -4)
        self.check_refused(LATE + [now(59)], read(1, 0, 0, 60), -4)
        self.check_refused(LATE, read(1, 0, 0, 60), -4)
        self.check_refused(OPEN, read(1, 0, 0, 201000), -4)

    def test_zones_above_and_below_0(self):
        self.check(OPEN + [read(1, 0, 60, 119), read(1, 0, 60, 120), read(1, 0, 60, 121)], [-4], THIRD, [-4])
        self.check(OPEN + [read(1, 0, -60, -1), read(1, 0, -60, 0), read(1, 0, -60, 1)], [-4], THIRD, [-4])
        self.check(OPEN + [read(1, 0, -61, -2), read(1, 0, -61, -1), read(1, 0, -61, 0)], [-4], THIRD, [-4])

    def test_the_range_of_zones(self):
        self.check(OPEN + [read(1, 0, 900, 960), read(1, 0, 900, 959), read(1, 0, 900, 961)], THIRD, [-4], [-4])
        self.check(OPEN + [read(1, 0, -900, -840), read(1, 0, -900, -841), read(1, 0, -900, -839)], THIRD, [-4], [-4])
        for zone in (901, -901, HUGE, -HUGE):
            self.check_refused(OPEN, read(1, 0, zone, 60), -1)
        self.check_refused(OPEN, read(1, 0, 901, 961), -1)
        self.check_refused(OPEN, read(1, 0, -901, -841), -1)

    def test_the_range_of_minutes(self):
        latest = LATE + [now(200000)]
        self.check(latest + [read(1, 0, 900, 200900), read(1, 0, 900, 200901), read(1, 0, 900, 201000)], THIRD, [-4], [-4])
        self.check(latest + [read(1, 0, 0, 200000), read(1, 0, 0, -1000), read(1, 0, -900, -1000)], THIRD, [-4], [-4])
        for minute in (-1001, 201001, HUGE, -HUGE):
            for zone in (0, 900, -900):
                self.check_refused(latest, read(1, 0, zone, minute), -1)

    def test_ahead_of_the_worlds_minute_0(self):
        before = [rules("OFFER 1"), motion(), choose()]
        self.check(before + [read(1, 0, 0, 0), read(1, 0, 0, -1), read(1, 0, 5, 5), read(1, 0, 5, 4)],
                   [1, 1, 1, 65, 0], [-4], [1, 1, 1, 65, 0], [-4])

    def test_the_first_refusal_counts(self):
        self.check_refused(OPEN, read(2, 9, 901, 61), -6)
        self.check_refused(OPEN, read(2, 9, 0, 201001), -6)
        self.check_refused(OPEN, read(2, 9, 0, 61), -6)
        self.check_refused(OPEN, read(1, 9, 901, 61), -1)
        self.check_refused(OPEN, read(1, -1, 0, 201001), -1)
        self.check_refused(OPEN, read(1, 0, -901, 59), -1)
        self.check_refused(OPEN, read(1, 9, 0, 61), -4)
        self.check_refused(OPEN, read(1, 9, 0, 59), -4)
        self.check_refused(OPEN, read(1, -1, 0, 61), -4)
        self.check_refused(OPEN, read(1, -1, 0, 60), -6)

    def test_it_is_read_where_it_is_seen(self):
        for zone in (-900, -7, 0, 7, 900):
            for minute in (28, 29, 30, 31, 58, 59, 60, 61):
                seen = last(*THREE, now(60), see(zone, zone + minute))
                for stage in (1, 2, 3):
                    answer = last(*THREE, now(60), read(stage, 0, zone, zone + minute))
                    rows = [seen[place:place + 3] for place in range(1, len(seen), 3)]
                    self.assertEqual(answer == [-4], [2, stage, stage] not in rows)

    def test_example(self):
        before = [rules("OFFER 2\nLEVELS 1 1 3\nRELEASE 1 60"), motion(1, "A"), motion(2, "A"), motion(3, "B"),
                  motion(4, "C"), choose(), now(60)]
        self.check(before + [lot(1), read(1, 0, 60, 119), read(1, 0, 60, 120), read(1, 1, 60, 120), read(1, 2, 60, 120)],
                   [4, 4, 3, 2, 4, 1], [-4], [3, 3, 1, 66, 0], [2, 2, 1, 65, 0], [-6])
