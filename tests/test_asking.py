"""The calls offered, may, told, lot and counts, which change nothing."""

from tests.support import (HUGE, HouseCase, PROBE, appeal, ask, both, choose, clear, codes, counts, debate, even, hall, last, lot,
                           may, motion, now, offered, order, read, restore, result, row, rules, see, shown, strike, told, topics,
                           undo, ways)

# The lot of round 1 is 3 5 2 4 6 1, of round 2 it's 3 4 6 5 2 1.
SIX = topics("A B C D E F")


def listed(numbers):
    return [len(numbers), len(numbers)] + numbers


class Offered(HouseCase):
    def test_motions_release_and_rooms(self):
        before = [rules("OFFER 3\nRELEASE 1 60")] + SIX + [choose()]
        self.check(before + [offered(1), now(60), offered(1), order(1, 0, 0, [2, 3, 5]), order(1, 9, 1, [2, 3, 5]), offered(1)],
                   [3, 60, 0, 3, 3, 5, 2], [1], [3, 60, 0, 3, 3, 5, 2], [0], [0], [3, 60, 2, 3, 3, 5, 2])

    def test_without_a_release(self):
        self.check([rules("OFFER 1\nTOPICS 1 B")] + SIX + [choose(), offered(1)], [1, 0, 0, 1, 2])

    def test_rooms_of_that_round_alone(self):
        before = hall(2, 2) + both(1, 0, [1, 2], [2, 1]) + both(1, 1, [1, 2], [2, 1]) + [order(2, 5, 0, [3, 4])]
        self.assertEqual(last(*before, offered(1))[:3], [2, 0, 2])
        self.assertEqual(last(*before, offered(2))[:3], [2, 0, 1])

    def test_a_room_counts_once(self):
        before = hall(2) + both(1, 0, [1, 2], [2, 1]) + [order(1, 0, 0, [2, 1]), result(1, 0, [0, 1, 2, 3])]
        self.assertEqual(last(*before, offered(1))[2], 1)
        self.assertEqual(last(*before, order(1, 1, 0, [2, 2]), offered(1))[2], 1)

    def test_behind_an_appeal_and_undo(self):
        before = [rules("OFFER 3\nRELEASE 1 60\nRELEASE 2 70")] + SIX + [choose()]
        self.check(before + [appeal(1, 5), offered(1)], [0], [3, 60, 0, 3, 3, 4, 2])
        self.check(before + [appeal(1, 5), undo(), offered(1), choose(), offered(1)], [0], [-6], [1], [3, 60, 0, 3, 3, 5, 2])
        self.check(before + [strike(5), offered(1)], [1], [3, 60, 0, 3, 3, 5, 2])

    def test_no_such_round(self):
        before = [rules("OFFER 3")] + SIX
        for stage in (0, 2, -1, 9, HUGE, -HUGE):
            self.check_refused(before + [choose()], offered(stage), -6)
        self.check(before + [offered(1), choose(), offered(2), clear(), offered(1)], [-6], [1], [-6], [0], [-6])


class May(HouseCase):
    def test_the_first_round(self):
        self.check([may(1)], [0, 0])
        self.check(SIX + [may(1)], listed([3, 5, 2, 4, 6, 1]))
        self.check([rules("UNLIKE 1")] + [motion()] * 4 + [may(1)], listed([3, 2, 4, 1]))

    def test_by_the_lot_of_its_round(self):
        self.check([rules("OFFER 1\nGAP 0")] + SIX + [choose(), may(2)], listed([4, 6, 5, 2, 1]))

    def test_no_such_round(self):
        for stage in (0, 2, -1, HUGE, -HUGE):
            self.check_refused(SIX, may(stage), -6)
        before = [rules("OFFER 3")] + SIX + [choose()]
        for stage in (0, 3, -1, HUGE, -HUGE):
            self.check_refused(before, may(stage), -6)
        self.check(before + [may(2), clear(), may(2)], listed([4, 6, 1]), [0], [-6])

    def test_of_an_earlier_round_by_rounds_before_it(self):
        before = [rules("OFFER 1\nGAP 0")] + SIX + [choose(), choose()]
        self.assertEqual([last(*before, offered(stage))[-1] for stage in (1, 2)], [3, 4])
        self.check(before + [may(1), may(2), may(3)], listed([3, 5, 2, 4, 6, 1]), listed([4, 6, 5, 2, 1]),
                   listed([number for number in last(*before, lot(3))[2:] if number not in (3, 4)]))

    def test_topics_of_later_rounds_hinder_nothing(self):
        before = [rules("OFFER 1\nGAP 9\nTOPICS 1 A\nTOPICS 2 B")] + topics("A B A B") + [choose(), choose()]
        self.assertEqual(sorted(last(*before, may(1))[2:]), [1, 3])
        self.assertEqual(sorted(last(*before, may(2))[2:]), [2, 4])
        self.check(before + [may(3)], [0, 0])

    def test_behind_the_last_of_all_rounds(self):
        before = [rules("OFFER 1\nROUNDS 1\nLEVELS 1 1 1")] + topics("A B A") + [choose()]
        first = last(*before, offered(1))[-1]
        left = [2] if first != 2 else [1, 3]
        self.assertEqual(sorted(last(*before, may(2))[2:]), left)
        self.check(before + [choose(), may(3)], [-9], [-6])
        names = "A B C D E F G H I J K"
        before = [rules("OFFER 1\nROUNDS 9")] + topics(names) + [choose()] * 9
        self.assertEqual(last(*before, may(10))[0], 2)
        self.check(before + [may(11)], [-6])

    def test_gap(self):
        names = "OFFER 1\nTOPICS 1 A\nTOPICS 2 B\nTOPICS 3 C"
        motions = topics("A B C A B C D")
        for gap, answer in ((0, "A B C D"), (1, "A B D"), (2, "A D"), (3, "D"), (4, "D"), (9, "D")):
            before = [rules(names + "\nGAP %d" % gap)] + motions + [choose()] * 3
            numbers = last(*before, may(4))[2:]
            found = sorted(bytes(last(*before, told(number))[4:]).decode() for number in numbers)
            self.assertEqual(" ".join(found), answer)

    def test_struck_motions(self):
        before = SIX + [strike(5), strike(1), may(1), restore(5), may(1)]
        self.assertEqual([ask(*before)[place] for place in (8, 10)], [listed([3, 2, 4, 6]), listed([3, 5, 2, 4, 6])])

    def test_a_struck_one_of_a_round_before_is_offered_there(self):
        before = [rules("OFFER 1\nGAP 0")] + SIX + [choose(), strike(3), restore(3), may(2)]
        self.check(before, listed([4, 6, 5, 2, 1]))

    def test_levels_and_topics(self):
        motions = [motion(level, topic) for level, topic in ((1, "A"), (2, "B"), (3, "A"), (4, "D"), (5, "E"), (3, "C"))]
        self.check([rules("LEVELS 1 2 4")] + motions + [may(1)], listed([3, 2, 4, 6]))
        self.check([rules("LEVELS 1 5 5")] + motions + [may(1)], listed([5]))
        self.check([rules("TOPICS 1 A E")] + motions + [may(1)], listed([3, 5, 1]))
        self.check([rules("TOPICS 1 A E\nLEVELS 1 1 3")] + motions + [may(1)], listed([3, 1]))
        self.check([rules("TOPICS 2 A E\nLEVELS 2 1 3")] + motions + [may(1)], listed([3, 5, 2, 4, 6, 1]))
        self.check([rules("TOPICS 1 X")] + motions + [may(1)], [0, 0])

    def test_as_rounds_stand_behind_an_appeal_and_undo(self):
        before = [rules("OFFER 3\nGAP 0\nRELEASE 1 60\nRELEASE 2 60")] + SIX + [choose()]
        self.check(before + [may(2), appeal(1, 5), may(2)], listed([4, 6, 1]), [0], listed([6, 5, 1]))
        self.check(before + [choose(), may(3), undo(), may(3), may(2)], [2], [0, 0], [1], [-6], listed([4, 6, 1]))

    def test_it_is_what_choose_chooses_by(self):
        # Of those who may, the first three of unlike topics.
        before = [rules("OFFER 3\nGAP 1")] + topics("A A B B C C D") + [may(1), choose(), offered(1)]
        answered = ask(*before)
        names = "AABBCCD"
        picked = []
        for number in answered[-3][2:]:
            if names[number - 1] not in [names[other - 1] for other in picked] and len(picked) < 3:
                picked.append(number)
        self.assertEqual(answered[-1][4:], picked)


class Told(HouseCase):
    def test_level_struck_round_and_topic(self):
        self.check([motion(4, "SPORT", "text"), told(1)], [4, 0, 0] + row("SPORT"))
        self.check([motion(1, "A"), motion(5, "ABCDEFGH"), strike(2), told(1), told(2)],
                   [1, 0, 0] + row("A"), [5, 1, 0] + row("ABCDEFGH"))

    def test_behind_strike_and_restore(self):
        self.check([motion(), strike(1), told(1), restore(1), told(1), strike(1), strike(1), told(1)],
                   [1, 1, 0, 1, 65], [0], [1, 0, 0, 1, 65], [1], [-7], [1, 1, 0, 1, 65])

    def test_the_round_in_which_it_is_offered(self):
        before = [rules("OFFER 2\nLEVELS 1 1 1\nLEVELS 2 2 2\nGAP 0\nRELEASE 2 60")]
        before += topics("A B") + topics("C D", 2) + [motion(3, "E")]
        self.check(before + [choose(), told(1), told(2), told(3)], [1, 0, 1, 1, 65], [1, 0, 1, 1, 66], [2, 0, 0, 1, 67])
        self.check(before + [choose(), choose(), told(1), told(3), told(4), told(5)],
                   [1, 0, 1, 1, 65], [2, 0, 2, 1, 67], [2, 0, 2, 1, 68], [3, 0, 0, 1, 69])
        self.check(before + [choose(), choose(), undo(), told(3), told(1)], [1], [2, 0, 0, 1, 67], [1, 0, 1, 1, 65])
        self.check(before + [choose(), strike(1), told(1)], [1], [1, 1, 1, 1, 65])

    def test_behind_an_appeal(self):
        before = [rules("OFFER 3\nRELEASE 1 60")] + SIX + [choose(), appeal(1, 5)]
        self.check(before + [told(5), told(4), told(3)], [1, 0, 0, 1, 69], [1, 0, 1, 1, 68], [1, 0, 1, 1, 67])

    def test_no_such_motion(self):
        self.check_refused([], told(1), -6)
        for number in (0, 7, -1, HUGE, -HUGE):
            self.check_refused(SIX, told(number), -6)
        self.check(SIX + [told(6), clear(), told(6)], [1, 0, 0, 1, 70], [0], [-6])
        self.check([motion()] * 40 + [told(40), told(41)], [1, 0, 0, 1, 65], [-6])


class Lot(HouseCase):
    def test_without_motions(self):
        for stage in range(1, 10):
            self.check([lot(stage)], [0, 0])

    def test_one_motion(self):
        for stage in range(1, 10):
            self.check([motion(), lot(stage)], [1, 1, 1])

    def test_lots(self):
        self.check(topics("A A B C") + [lot(1)], listed([3, 2, 4, 1]))
        self.check(SIX + [lot(1), lot(2)], listed([3, 5, 2, 4, 6, 1]), listed([3, 4, 6, 5, 2, 1]))
        self.check([rules("SEED 12")] + [motion()] * 10 + [lot(3), lot(2)],
                   listed([9, 5, 2, 6, 3, 1, 8, 7, 10, 4]), listed([9, 2, 6, 8, 3, 5, 4, 10, 7, 1]))

    def by_words(self, seed, stage, count):
        left, drawn, state = list(range(1, count + 1)), [], 100 * seed + stage
        while left:
            state = (1103515245 * state + 12345) % 2 ** 31
            drawn.append(left.pop(state // 65536 % len(left)))
        return drawn

    def test_forty_motions_and_all_rounds(self):
        for seed in (0, 1, 54321, 99999):
            before = [rules("SEED %d\nROUNDS 1" % seed)] + [motion()] * 40
            answered = ask(*before, *[lot(stage) for stage in range(1, 10)])[41:]
            self.assertEqual(answered, [listed(self.by_words(seed, stage, 40)) for stage in range(1, 10)])
        self.assertEqual(last(*[motion()] * 40, lot(1))[2:12], [39, 26, 6, 16, 22, 32, 31, 34, 24, 33])

    def test_all_motions_whatever_befell_them(self):
        before = [rules("OFFER 2\nLEVELS 1 1 1\nTOPICS 2 C\nRELEASE 1 9")] + SIX
        for calls in ([strike(3), strike(1)], [choose()], [choose(), appeal(1, 3)], [choose(), now(9), undo()]):
            self.check(before + calls + [lot(1), lot(2)], listed([3, 5, 2, 4, 6, 1]), listed([3, 4, 6, 5, 2, 1]))

    def test_the_range_of_rounds(self):
        for before in ([], SIX, [rules("OFFER 1")] + SIX + [choose()]):
            for stage in (0, 10, -1, HUGE, -HUGE):
                self.check_refused(before, lot(stage), -1)


class Counts(HouseCase):
    def test_at_the_beginning(self):
        self.check([counts()], [0, 0, 0, 0, 0])
        self.check([rules("ROUNDS 3"), counts()], [0, 0, 0, 0, 0])

    def test_each_number(self):
        before = [rules("OFFER 2\nGAP 0\nRELEASE 2 60")] + SIX
        self.check(before + [counts(), strike(1), strike(2), counts(), restore(2), counts()],
                   [6, 0, 0, 0, 0], [1], [2], [6, 2, 0, 0, 0], [1], [6, 1, 0, 0, 0])
        self.check(before + [choose(), choose(), counts(), undo(), counts()], [6, 0, 2, 0, 0], [1], [6, 0, 1, 0, 0])
        self.check(before + [now(7), counts(), now(200000), counts(), now(5), counts()],
                   [6, 0, 0, 7, 0], [0], [6, 0, 0, 200000, 0], [-1], [6, 0, 0, 200000, 0])

    def test_rooms_of_all_rounds(self):
        before = hall(2, 2) + both(1, 0, [1, 2], [2, 1]) + both(1, 1, [1, 2], [2, 1]) + [order(2, 0, 0, [3, 4])]
        self.check(before + [counts()], [4, 0, 2, 0, 3])
        self.check(before + [order(2, 1, 0, [1, 2]), counts(), clear(), counts()], [-7], [4, 0, 2, 0, 3], [0], [0, 0, 0, 0, 0])

    def test_an_appeal_changes_no_count(self):
        before = [rules("OFFER 3\nRELEASE 1 60")] + SIX + [choose()]
        self.check(before + [counts(), appeal(1, 3), counts()], [6, 0, 1, 0, 0], [0], [6, 0, 1, 0, 0])


class Asked(HouseCase):
    def test_asking_changes_nothing(self):
        before = [rules("OFFER 3\nRELEASE 2 60\nSIZE 2")] + SIX + [choose(), strike(6), strike(1), restore(1), motion(1, "Z")]
        before += both(1, 4, [2, 3, 5], [3, 2, 5]) + [result(1, 4, [1, 0]), choose()]
        questions = [shown(), see(0, 0), read(1, 0, 0, 0), debate(1, 4), offered(1), offered(2), may(1), may(2), may(3), told(2),
                     even(2), even(3), ways(3, 2), lot(4), counts()]
        answered = ask(*before, *questions, *questions[:-3], *questions[-2:], *PROBE)[len(before):]
        self.assertEqual(answered[:15], answered[15:27] + answered[12:13] + answered[27:29])
        self.assertEqual(answered[29:], ask(*before, *PROBE)[len(before):])

    def test_offered_told_and_counts_behind_each_call(self):
        # Of the motions 3 5 2 the 5 gives way to 4, and comes back with the round chosen again.
        steps = [(SIX[0], [-6], [-6], [1, 0, 0, 0, 0])]
        steps += [(call, [-6], [-6] if at < 4 else [1, 0, 0, 1, 69], [at + 1, 0, 0, 0, 0]) for at, call in enumerate(SIX)][1:]
        steps += [(choose(), [3, 60, 0, 3, 3, 5, 2], [1, 0, 1, 1, 69], [6, 0, 1, 0, 0]),
                  (appeal(1, 5), [3, 60, 0, 3, 3, 4, 2], [1, 0, 0, 1, 69], [6, 0, 1, 0, 0]),
                  (undo(), [-6], [1, 0, 0, 1, 69], [6, 0, 0, 0, 0]),
                  (choose(), [3, 60, 0, 3, 3, 5, 2], [1, 0, 1, 1, 69], [6, 0, 1, 0, 0]),
                  (strike(5), [3, 60, 0, 3, 3, 5, 2], [1, 1, 1, 1, 69], [6, 1, 1, 0, 0]),
                  (restore(5), [3, 60, 0, 3, 3, 5, 2], [1, 0, 1, 1, 69], [6, 0, 1, 0, 0]),
                  (now(60), [3, 60, 0, 3, 3, 5, 2], [1, 0, 1, 1, 69], [6, 0, 1, 60, 0]),
                  (order(1, 8, 1, [5, 3, 2]), [3, 60, 1, 3, 3, 5, 2], [1, 0, 1, 1, 69], [6, 0, 1, 60, 1]),
                  (order(1, 8, 0, [5, 2, 3]), [3, 60, 1, 3, 3, 5, 2], [1, 0, 1, 1, 69], [6, 0, 1, 60, 1]),
                  (clear(), [-6], [-6], [0, 0, 0, 0, 0])]
        calls = [rules("OFFER 3\nRELEASE 1 60")]
        for call, round_one, motion_five, all_counts in steps:
            calls.append(call)
            self.check(calls + [offered(1), told(5), counts()], round_one, motion_five, all_counts)

    def test_topics_are_given_as_they_were_told(self):
        self.assertEqual(last(motion(1, "QXZ"), told(1))[4:], codes("QXZ"))
