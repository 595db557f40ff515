import unittest

from tests.helper import (
    ACCEPT, AGREE, NO_TRUMPS, WITHDRAW, BoardCase, cards, claim, deal, hand, mend, play, plays, raw_deal, script, undo,
    whose,
)

# Seat 0 declares, seat 2 is the dummy, seat 1 is on lead.
HANDS = ["CA DK H2", "C2 D2 S2", "C3 D3 S3", "C4 D4 H4"]
START = [deal(0, NO_TRUMPS, HANDS)]
ONE_EACH = [deal(3, 0, ["C2", "C3", "C4", "C5"])]
SUIT_EACH = [raw_deal(0, NO_TRUMPS, [k // 13 for k in range(52)])]


class HandTest(BoardCase):

    def test_each_seats_cards_going_up(self):
        self.check(START, (hand(0), [0, 12, 24, 26]), (hand(1), [0, 0, 13, 39]), (hand(2), [0, 1, 14, 40]),
                   (hand(3), [0, 2, 15, 28]))

    def test_sizes(self):
        for size in (1, 2, 3, 13):
            row = [k % 4 if k < 4 * size else 4 for k in range(52)]
            for seat in range(4):
                self.check([raw_deal(0, 0, row)], (hand(seat), [0] + list(range(seat, 4 * size, 4))))

    def test_a_card_played_leaves_the_hand(self):
        self.check(START + plays("1:D2"), (hand(1), cards("C2 S2")), (hand(2), cards("C3 D3 S3")))

    def test_an_empty_hand(self):
        self.check(ONE_EACH + plays("0:C2 1:C3"), (hand(0), [0]), (hand(1), [0]), (hand(2), cards("C4")))
        self.check(ONE_EACH + plays("0:C2 1:C3 2:C4 3:C5"), (hand(2), [0]), (hand(3), [0]))
        self.check(SUIT_EACH + [script(" ".join(f"{suit}{rank}" for rank in "23456789TJQKA" for suit in "DHSC"))],
                   (hand(0), [0]), (hand(1), [0]), (hand(2), [0]), (hand(3), [0]))

    def test_a_card_that_waits_or_is_withdrawn_stays(self):
        self.check(START + plays("3:D4"), (hand(3), cards("C4 D4 H4")), (WITHDRAW, [0, 3]),
                   (hand(3), cards("C4 D4 H4")))

    def test_an_accepted_card_leaves(self):
        self.check(START + plays("3:D4") + [ACCEPT], (hand(3), cards("C4 H4")))

    def test_a_revoke_put_right_goes_back_to_its_place(self):
        before = START + plays("1:C2 2:C3 3:D4")
        self.check(before, (hand(3), cards("C4 H4")), (mend("C4"), [0, 0]), (hand(3), cards("D4 H4")))
        start = [deal(0, NO_TRUMPS, ["CA CK DK H2", "C2 D2 S2 S4", "C3 D3 S3 S5", "C4 C5 D4 H4"])]
        self.check(start + plays("1:C2 2:C3 3:D4") + [mend("C5")], (hand(3), cards("C4 D4 H4")))
        self.check(start + plays("1:C2 2:C3 3:C4 0:DK") + [mend("CA")], (hand(0), cards("CK DK H2")))

    def test_a_card_that_was_undone_is_back(self):
        self.check(START + plays("1:C2 2:C3 3:C4 0:CA"), (hand(0), cards("DK H2")), (undo(1), [0]),
                   (hand(0), cards("CA DK H2")), (undo(3), [0]), (hand(1), cards("C2 D2 S2")))

    def test_an_agreed_claim_leaves_the_cards_in_the_hands(self):
        self.check(START + plays("1:C2 2:C3 3:C4 0:CA") + [claim(0, 2), AGREE], (hand(0), cards("DK H2")))

    def test_a_board_dealt_anew(self):
        self.check(START + plays("1:C2 2:C3") + ONE_EACH, (hand(0), cards("C2")), (hand(1), cards("C3")),
                   (hand(2), cards("C4")), (hand(3), cards("C5")))


class WhoseTest(BoardCase):

    def test_in_each_hand_and_with_nobody(self):
        owners = raw_deal(0, 0, [0, 4, 1, 3, 2, 4] + [0, 1, 2, 3] * 11 + [4, 4])
        for number, owner in enumerate(owners[4:]):
            self.check([owners], ([17, number], [0, 6 if owner == 4 else owner]))

    def test_the_first_and_the_last_card(self):
        self.check([raw_deal(0, 0, [2] + [4] * 48 + [0, 1, 3])], ([17, 0], [0, 2]), ([17, 51], [0, 3]),
                   ([17, 1], [0, 6]), ([17, 48], [0, 6]), ([17, 49], [0, 0]), ([17, 50], [0, 1]))

    def test_on_the_table_and_then_in_a_finished_trick(self):
        texts = ("C2", "C3", "C4", "CA")
        for count in range(1, 4):
            before = START + plays("1:C2 2:C3 3:C4")[:count]
            self.check(before, *[(whose(text), [0, 4]) for text in texts[:count]])
        before = START + plays("1:C2 2:C3 3:C4 0:CA")
        self.check(before, *[(whose(text), [0, 5]) for text in texts])
        self.check(before + plays("0:DK"), (whose("DK"), [0, 4]), (whose("CA"), [0, 5]), (whose("D2"), [0, 1]),
                   (whose("SA"), [0, 6]))

    def test_all_cards_of_a_board_that_was_played_out(self):
        self.check(ONE_EACH + plays("0:C2 1:C3 2:C4 3:C5"),
                   *[([17, number], [0, 5 if number < 4 else 6]) for number in range(52)])

    def test_a_card_that_waits_is_in_its_hand(self):
        self.check(START + plays("3:D4"), (whose("D4"), [0, 3]), (WITHDRAW, [0, 3]), (whose("D4"), [0, 3]),
                   (play(3, "D4"), [0, 1]), (ACCEPT, [0, 0]), (whose("D4"), [0, 4]))

    def test_a_revoke_put_right(self):
        before = START + plays("1:C2 2:C3 3:D4")
        self.check(before, (whose("D4"), [0, 4]), (whose("C4"), [0, 3]), (mend("C4"), [0, 0]), (whose("D4"), [0, 3]),
                   (whose("C4"), [0, 4]))

    def test_undone(self):
        self.check(START + plays("1:C2 2:C3 3:C4 0:CA"), (undo(1), [0]), (whose("CA"), [0, 0]), (whose("C2"), [0, 4]),
                   (undo(3), [0]), (whose("C2"), [0, 1]))

    def test_behind_an_agreed_claim(self):
        self.check(START + plays("1:C2 2:C3 3:C4 0:CA") + [claim(0, 2), AGREE], (whose("DK"), [0, 0]),
                   (whose("C2"), [0, 5]), (whose("S4"), [0, 6]))

    def test_a_board_dealt_anew(self):
        self.check(START + plays("1:C2 2:C3") + [deal(0, 0, ["D5", "D6", "D7", "C3"])], (whose("C3"), [0, 3]),
                   (whose("C2"), [0, 6]), (whose("D5"), [0, 0]))


if __name__ == "__main__":
    unittest.main()
