"""The refusals that all calls share: -1 for what is outside its range, then -3 without a board."""

import unittest

from tests.helper import (
    FAR, NO_TRUMPS, QUESTIONS, TABLE, WITHDRAW, BoardCase, claim, deal, duty, hand, mend, play, plays, raw_deal, row_of,
    run, script, trick, whose,
)

HANDS = ["CA DK H2", "C2 D2 S2", "C3 D3 S3", "C4 D4 H4"]
START = [deal(0, NO_TRUMPS, HANDS)]

# A call that isn't refused on the board before it, and the ranges of its plain arguments.
CALLS = (
    (START, [0, 1, 2], ((0, 3), (0, 4))),
    (START, play(1, "C2"), ((0, 3), (0, 51))),
    (START + plays("3:C4"), [2, 1], ((0, 1),)),
    (START + plays("1:C2 2:C3 3:D4"), mend("C4"), ((0, 51),)),
    (START + plays("3:C4") + [WITHDRAW], duty(1, "C"), ((1, 2), (0, 3))),
    (START, claim(0, 1), ((0, 1), (0, 13))),
    (START + [claim(0, 1)], [6, 1], ((0, 1),)),
    (START + plays("1:C2"), [7, 1], ((0, 400),)),
    (START, hand(1), ((0, 3),)),
    (START + [script("C2 C3 C4 CA")], trick(1), ((1, 13),)),
    (START, whose("C2"), ((0, 51),)),
)


def whole(call):
    """The call with the row that deal has behind it."""
    if call[0] != 0:
        return call
    return raw_deal(call[1], call[2], row_of(HANDS))


def variants(call, ranges):
    """The call with one argument at a time at its ends, and just and far outside; and whether it's inside."""
    for place, (least, greatest) in enumerate(ranges):
        for value in (least, greatest, least - 1, greatest + 1, FAR, -FAR):
            other = list(call)
            other[1 + place] = value
            yield whole(other), least <= value <= greatest


class RangeTest(BoardCase):

    def test_the_calls_are_not_refused_as_they_stand(self):
        for before, call, ranges in CALLS:
            self.assertEqual(run(before + [whole(call)])[-1][0], 0, call)

    def test_outside_its_range_on_a_board(self):
        for before, call, ranges in CALLS:
            for other, inside in variants(call, ranges):
                if inside:
                    self.assertNotEqual(run(before + [other])[-1], [-1], other)
                else:
                    self.check_refused(before, other, -1)

    def test_before_the_first_deal(self):
        for before, call, ranges in CALLS[1:]:
            for other, inside in variants(call, ranges):
                self.check([], (other, [-3 if inside else -1]), (TABLE, [-3]))

    def test_range_goes_before_all_other_refusals(self):
        over = [deal(3, 0, ["C2", "C3", "C4", "C5"])] + plays("0:C2 1:C3 2:C4 3:C5")
        for before in (over, START + plays("3:C4"), START + plays("1:C2"), START + [claim(0, 1)]):
            for call in ([1, 4, 0], [1, 0, 52], [2, 2], [3, 52], [4, 0, 0], [4, 1, 4], [5, 2, 0], [5, 0, 14], [6, 2],
                         [7, 401], [9, 4], [9, -1], [11, 0], [11, 14], [16, 1, 256], [16, 1, -1], [17, 52], [17, -1]):
                self.check_refused(before, call, -1)


class NoBoardTest(BoardCase):

    def test_any_call_before_the_first_deal(self):
        calls = [[1, 0, 0], [2, 0], [2, 1], [3, 0], [4, 1, 0], [5, 0, 0], [6, 0], [6, 1], [7, 0], [7, 1], [16, 0],
                 script("C2"), script("XX"), [17, 0], [17, 51]]
        for call in calls + QUESTIONS:
            self.check([], (call, [-3]), (TABLE, [-3]), (whole([0, 1, 2]), [0, 3]), (TABLE, [0, 2, 0, 3, 0, 0, 0, 0]))

    def test_a_refused_deal_makes_no_board(self):
        for refused in (raw_deal(0, 0, [4] * 52), raw_deal(0, 0, [0] * 51), raw_deal(4, 0, row_of(HANDS))):
            for call in QUESTIONS + [script("C2"), whose("C2"), [7, 0]]:
                self.assertEqual(run([refused, call])[1], [-3], (refused, call))


if __name__ == "__main__":
    unittest.main()
