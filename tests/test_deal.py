import unittest

from tests.helper import (
    FAR, NO_TRUMPS, TABLE, BoardCase, card, claim, deal, play, plays, raw_deal, row_of, run, table, undo,
)

SMALL = ["C2", "C3", "C4", "C5"]
BEFORE = [deal(0, NO_TRUMPS, ["C2 D2", "C3 D3", "C4 D4", "C5 D5"])] + plays("1:C3 2:C4")


class DealTest(BoardCase):

    def test_smallest_board(self):
        self.check([], (deal(0, NO_TRUMPS, SMALL), [0, 1]), (TABLE, table(1, 0, 1)))

    def test_greatest_board(self):
        row = [k // 13 for k in range(52)]
        self.check([], (raw_deal(2, 0, row), [0, 13]), (TABLE, table(3, 0, 13)))

    def test_each_number_tells_who_is_dealt_that_card(self):
        row = [k % 4 for k in range(52)]
        for seat in range(4):
            for k in range(52):
                expected = 0 if k % 4 == seat else -6
                answer = run([raw_deal((seat + 3) % 4, NO_TRUMPS, row), [1, seat, k]])[1]
                self.assertEqual(answer[0], expected, (seat, k))

    def test_a_card_of_nobody_is_in_no_hand(self):
        for seat in range(4):
            self.check_refused([deal(0, NO_TRUMPS, SMALL)], play(seat, "SA"), -6)

    def test_each_declarer_has_the_seat_behind_on_lead(self):
        for declarer in range(4):
            self.check([], (deal(declarer, 1, SMALL), [0, 1]), (TABLE, table((declarer + 1) % 4, 0, 1)))

    def test_unequal_hands_are_refused(self):
        for hands in (["C2 D2", "C3", "C4", "C5"], ["C2", "C3 D3", "C4", "C5"], ["C2", "C3", "C4 D4", "C5"],
                      ["C2", "C3", "C4", "C5 D5"], ["", "C3", "C4", "C5"], ["C2", "C3", "C4", ""]):
            self.check_refused(BEFORE, deal(0, 0, hands), -2)

    def test_empty_hands_are_refused(self):
        self.check_refused(BEFORE, raw_deal(0, 0, [4] * 52), -2)

    def test_a_refused_first_deal_leaves_no_board(self):
        for call, refusal in ((raw_deal(0, 0, [4] * 52), -2), (raw_deal(4, 0, row_of(SMALL)), -1)):
            self.check([], (call, [refusal]), (TABLE, [-3]))

    def test_row_of_another_length(self):
        row = row_of(SMALL)
        for wrong in ([], row[:51], row + [4], row + [4] * 8):
            self.check_refused(BEFORE, raw_deal(0, 0, wrong), -1)
            self.check([], (raw_deal(0, 0, wrong), [-1]), (TABLE, [-3]))

    def test_row_with_a_number_outside(self):
        for place in (0, 25, 51):
            for value in (-1, 5, FAR, -FAR):
                row = row_of(SMALL)
                row[place] = value
                self.check_refused(BEFORE, raw_deal(0, 0, row), -1)

    def test_range_goes_before_unequal_hands(self):
        self.check_refused(BEFORE, raw_deal(0, 5, [4] * 52), -1)

    def test_second_deal_takes_the_place_of_the_first(self):
        self.check(BEFORE, (deal(3, 2, SMALL), [0, 1]), (TABLE, table(0, 0, 1)), (undo(1), [-15]),
                   (play(0, "D2"), [-6]), (play(0, "C2"), [0, 0]),
                   (TABLE, table(1, 0, 1, on_table="0:C2")))

    def test_second_deal_ends_what_waited(self):
        hands = ["C2 D2", "C3 D3", "C4 D4", "C5 D5"]
        for waits in (play(3, "C5"), claim(0, 1)):
            self.check([deal(0, NO_TRUMPS, hands), waits, deal(0, NO_TRUMPS, hands)],
                       (TABLE, table(1, 0, 2)), ([2, 0], [-9]), ([6, 0], [-9]), (play(1, "C3"), [0, 0]))

    def test_second_deal_ends_revoke_face_up_cards_and_agreed_claim(self):
        hands = ["C2 D2", "C3 D3", "C4 D4", "C5 D5"]
        first = deal(0, NO_TRUMPS, hands)
        revoke = plays("1:C3 2:C4 3:D5")
        self.check([first] + revoke + [first], ([3, card("C5")], [-11]))
        self.check([first] + plays("3:D5") + [[2, 0], first], ([4, 1, 1], [-12]))
        self.check([first, claim(1, 2), [6, 1], first], (TABLE, table(1, 0, 2)))


if __name__ == "__main__":
    unittest.main()
