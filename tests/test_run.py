import unittest

from asking import GREATEST, OUTSIDE, ask, ask_last, assert_refused, assert_unchanged, laid_out, state_after

EXAMPLE = (("create", 3, 100, 0), ("add_portions", 60, 45, 50))
STATES = (
    EXAMPLE,
    (*EXAMPLE, ("add_portions", 70, 20, 10, 101, 99, 5)),
    (("create", 1, 50, 0), ("add_portions", *range(50, 75))),
    (("create", 8, 200, 2), ("add_portions", *range(31, 61))),
    (("create", 8, 10, 1), ("add_portions", *range(1, 31))),
    laid_out(60, 0, ((0, 0), (70, 2), (0, 0), (40, 1), (65, 0)), queue=(7, 8, 9, 100, 55)),
    laid_out(100, 1, ((60, 0), (45, 1), (50, 2)), queue=(300, 1, 99)),
    laid_out(50, 1, ((300, 0), (45, 1), (52, 1))),
    laid_out(156, 1, ((60, 2), (45, 1), (50, 0)), queue=(80,)),
    (("create", 2, 1, 0),),
)


class Run(unittest.TestCase):

    def test_it_ends_when_no_set_fills(self):
        told = ask(*EXAMPLE, ("add_portion", 70), ("run", 12), ("get_hoppers",), ("get_queue",), ("totals",))
        # 60 and 45, then 70 and 50.
        self.assertEqual(told[3:], [[2, 25], [3, 0, 0, 0, 0, 0, 0], [0], [2, 225, 225, 0, 0]])

    def test_it_ends_when_the_bags_are_filled(self):
        before = (("create", 1, 50, 0), ("add_portions", *range(50, 75)))
        for bags in range(1, 13):
            told = ask(*before, ("run", bags), ("get_queue",), ("totals",))
            self.assertEqual(told[2], [bags, sum(range(bags))])
            self.assertEqual(told[3], [24 - bags, *range(51 + bags, 75)])
            self.assertEqual(told[4][0], bags)

    def test_it_ends_ahead_of_12_bags(self):
        for count in range(1, 8):
            before = (("create", 1, 50, 0), ("add_portions", *[52] * count, 49))
            for bags in (count, count + 1, 12):
                self.assertEqual(ask_last(*before, ("run", bags)), [count, 2 * count])

    def test_no_bag(self):
        for before in (
            (("create", 3, 1, 0),),
            (("create", 3, 156, 0), ("add_portions", 60, 45, 50, 300)),
            laid_out(156, 1, ((60, 2), (45, 1), (50, 0))),
        ):
            for bags in (1, 2, 12):
                self.assertEqual(ask_last(*before, ("run", bags)), [0, 0])
                assert_unchanged(self, before, ("run", bags))

    def test_it_does_what_single_bags_do(self):
        for before in STATES:
            for bags in (1, 2, 3, 7, 12):
                with self.subTest(before=before, bags=bags):
                    told = ask(*before, *[("fill_best_bag",)] * bags)[len(before):]
                    filled = [answer for answer in told if len(answer) == 3]
                    excess = sum(answer[1] for answer in filled)
                    self.assertEqual(ask_last(*before, ("run", bags)), [len(filled), excess])
                    single = state_after(*before, *[("fill_best_bag",)] * bags)
                    self.assertEqual(state_after(*before, ("run", bags)), single)

    def test_the_count_is_of_this_run_alone(self):
        before = (("create", 1, 50, 0), ("add_portions", *[51] * 20))
        told = ask(*before, ("run", 3), ("run", 5), ("fill_bag", 1), ("run", 12), ("run", 1), ("totals",))
        self.assertEqual(told[2:], [[3, 3], [5, 5], [1], [11, 11], [0, 0], [20, 1020, 1020, 0, 0]])

    def test_due_hoppers_go_along(self):
        before = (("create", 3, 50, 1), ("add_portions", 50, 50, 50, 50, 50, 50))
        # With each bag, the hoppers that were left alone ahead of it are due.
        told = ask(*before, ("run", 1), ("get_hoppers",), ("run", 1), ("get_hoppers",))
        self.assertEqual(told[2:], [[1, 0], [3, 50, 0, 50, 1, 50, 1], [1, 50], [3, 50, 1, 50, 0, 50, 0]])

    def test_numbers_of_bags_outside_their_limits(self):
        for before in STATES[0], STATES[-1]:
            for bags in (0, 13, GREATEST):
                with self.subTest(before=before, bags=bags):
                    assert_refused(self, before, ("run", bags), OUTSIDE)


class PreviewRun(unittest.TestCase):

    def test_it_answers_what_run_would(self):
        for before in STATES:
            for bags in range(1, 13):
                with self.subTest(before=before, bags=bags):
                    self.assertEqual(ask_last(*before, ("preview_run", bags)), ask_last(*before, ("run", bags)))

    def test_the_state_is_not_changed(self):
        for before in STATES:
            for bags in (1, 2, 12):
                with self.subTest(before=before, bags=bags):
                    assert_unchanged(self, before, ("preview_run", bags))
                    told = ask(*before, ("preview_run", bags), ("preview_run", bags), ("run", bags))
                    self.assertEqual(told[-3:], told[-1:] * 3)

    def test_it_tells_other_numbers_of_bags(self):
        before = (("create", 1, 50, 0), ("add_portions", *range(50, 75)))
        told = ask(*before, ("preview_run", 12), ("preview_run", 1), ("run", 1), ("preview_run", 2), ("totals",))
        self.assertEqual(told[2:], [[12, 66], [1, 0], [1, 0], [2, 3], [1, 1550, 50, 51, sum(range(52, 75))]])

    def test_no_bag(self):
        for bags in (1, 12):
            self.assertEqual(ask_last(*EXAMPLE, ("set_target", 156), ("preview_run", bags)), [0, 0])

    def test_numbers_of_bags_outside_their_limits(self):
        for before in STATES[0], STATES[-1]:
            for bags in (0, 13, GREATEST):
                with self.subTest(before=before, bags=bags):
                    assert_refused(self, before, ("preview_run", bags), OUTSIDE)
