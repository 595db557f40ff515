import unittest

from tests.helper import (
    ACCEPT, AGREE, NO_TRUMPS, TEXT, WITHDRAW, BoardCase, bytes_of, claim, deal, mend, play, plays, raw_deal, script,
    trick, undo, won_trick,
)

# Seat 0 declares, seat 2 is the dummy, seat 1 is on lead.
START = [deal(0, NO_TRUMPS, ["CA DK H2", "C2 D2 S2", "C3 D3 S3", "C4 D4 H4"])]
ONE_TRICK = START + plays("1:C2 2:C3 3:C4 0:CA")
ONE_EACH = [deal(3, 0, ["C2", "C3", "C4", "C5"])]

# Each seat has one suit, so that seat 1, on lead, wins every trick.
SUIT_EACH = [raw_deal(0, NO_TRUMPS, [k // 13 for k in range(52)])]
ALL_CARDS = " ".join(f"{suit}{rank}" for rank in "23456789TJQKA" for suit in "DHSC")


class TrickTest(BoardCase):

    def test_the_winner_and_the_plays_in_order(self):
        self.check(ONE_TRICK, (trick(1), [0, 0, 1, 0, 2, 1, 3, 2, 0, 12]))

    def test_the_first_the_last_finished_and_one_more(self):
        before = ONE_TRICK + plays("0:DK 1:D2 2:D3 3:D4")
        self.check(before, (trick(1), won_trick(0, "1:C2 2:C3 3:C4 0:CA")),
                   (trick(2), won_trick(0, "0:DK 1:D2 2:D3 3:D4")), (trick(3), [-16]))
        before += plays("0:H2 1:S2 2:S3 3:H4")
        self.check(before, (trick(1), won_trick(0, "1:C2 2:C3 3:C4 0:CA")),
                   (trick(3), won_trick(3, "0:H2 1:S2 2:S3 3:H4")), (trick(4), [-16]), (trick(13), [-16]))

    def test_fewer_are_finished(self):
        for count in range(4):
            self.check_refused(START + plays("1:C2 2:C3 3:C4")[:count], trick(1), -16)
        for number in (2, 3, 4, 13):
            self.check_refused(ONE_TRICK, trick(number), -16)
        self.check_refused(ONE_TRICK + plays("0:DK 1:D2 2:D3"), trick(2), -16)

    def test_not_of_a_claimed_trick(self):
        self.check(ONE_TRICK + [claim(0, 2), AGREE], (trick(1), won_trick(0, "1:C2 2:C3 3:C4 0:CA")), (trick(2), [-16]))

    def test_sizes_one_and_two(self):
        self.check(ONE_EACH + plays("0:C2 1:C3 2:C4 3:C5"), (trick(1), won_trick(3, "0:C2 1:C3 2:C4 3:C5")),
                   (trick(2), [-16]))
        self.check([deal(0, NO_TRUMPS, ["C2 D2", "C3 D3", "C4 D4", "C5 D5"]), script("C3 C4 C5 C2 D5 D2 D3 D4")],
                   (trick(1), won_trick(3, "1:C3 2:C4 3:C5 0:C2")), (trick(2), won_trick(3, "3:D5 0:D2 1:D3 2:D4")),
                   (trick(3), [-16]))

    def test_all_thirteen(self):
        before = SUIT_EACH + [script(ALL_CARDS)]
        self.check(before, *[(trick(k + 1), [0, 1, 1, 13 + k, 2, 26 + k, 3, 39 + k, 0, k]) for k in range(13)])

    def test_the_greatest_of_the_suit_led_wins(self):
        # Seat 2 has the greater card, but not of the suit led.
        self.check([deal(0, NO_TRUMPS, ["C4", "C2", "DA", "C3"]), script("C2 DA C3 C4")],
                   (trick(1), won_trick(0, "1:C2 2:DA 3:C3 0:C4")))

    def test_the_greatest_trump_wins(self):
        for trump, winner in ((0, 1), (1, 0), (2, 2), (3, 1), (4, 1)):
            self.check([deal(0, trump, ["D3", "CA", "HA", "D2"]), script("CA HA D2 D3")],
                       (trick(1), won_trick(winner, "1:CA 2:HA 3:D2 0:D3")))

    def test_an_accepted_card_led_it(self):
        self.check(START + [play(3, "C4"), ACCEPT] + plays("0:CA 1:C2 2:C3"),
                   (trick(1), won_trick(0, "3:C4 0:CA 1:C2 2:C3")))

    def test_a_revoke_and_its_mending(self):
        before = [deal(0, 1, ["C4 D2", "C2 H2", "C3 H3", "CA H4"])] + plays("1:C2 2:C3 3:CA 0:D2")
        self.check(before, (trick(1), won_trick(0, "1:C2 2:C3 3:CA 0:D2")), (mend("C4"), [0, 0]),
                   (trick(1), won_trick(3, "1:C2 2:C3 3:CA 0:C4")))

    def test_undone(self):
        self.check(ONE_TRICK, (undo(1), [0]), (trick(1), [-16]), (play(0, "CA"), [0, 0]),
                   (trick(1), won_trick(0, "1:C2 2:C3 3:C4 0:CA")))

    def test_a_board_dealt_anew(self):
        self.check(ONE_TRICK + START, (trick(1), [-16]))
        self.check(ONE_TRICK + ONE_EACH + plays("0:C2 1:C3 2:C4 3:C5"),
                   (trick(1), won_trick(3, "0:C2 1:C3 2:C4 3:C5")))


class TextTest(BoardCase):

    def test_no_card(self):
        self.check(START, (TEXT, [0]))
        self.check(START + [play(1, "C2"), undo(1)], (TEXT, [0]))

    def test_one_card(self):
        self.check(START + plays("1:C2"), (TEXT, [0, 67, 50]))

    def test_a_blank_between_two(self):
        self.check(START + plays("1:C2 2:C3"), (TEXT, [0, 67, 50, 32, 67, 51]))

    def test_finished_tricks_and_the_table(self):
        self.check(ONE_TRICK, (TEXT, bytes_of("C2 C3 C4 CA")))
        self.check(ONE_TRICK + plays("0:H2 1:S2"), (TEXT, bytes_of("C2 C3 C4 CA H2 S2")))
        self.check(ONE_TRICK + plays("0:DK 1:D2 2:D3 3:D4 0:H2"), (TEXT, bytes_of("C2 C3 C4 CA DK D2 D3 D4 H2")))

    def test_each_card(self):
        self.check(SUIT_EACH + [script(ALL_CARDS)], (TEXT, bytes_of(ALL_CARDS)))
        for suit, letter in enumerate((67, 68, 72, 83)):
            for rank, sign in enumerate((50, 51, 52, 53, 54, 55, 56, 57, 84, 74, 81, 75, 65)):
                row = [4] * 52
                for seat in range(4):
                    row[(suit * 13 + rank + seat) % 52] = seat
                self.check([raw_deal(3, 0, row), [1, 0, suit * 13 + rank]], (TEXT, [0, letter, sign]))

    def test_a_board_of_one_card_each(self):
        self.check(ONE_EACH + plays("0:C2 1:C3 2:C4 3:C5"), (TEXT, bytes_of("C2 C3 C4 C5")))

    def test_a_card_that_waits_or_lies_face_up_was_not_played(self):
        self.check(START + plays("1:C2 3:D4"), (TEXT, bytes_of("C2")), (WITHDRAW, [0, 3]), (TEXT, bytes_of("C2")))

    def test_an_accepted_card(self):
        self.check(START + [play(3, "C4"), ACCEPT], (TEXT, bytes_of("C4")))

    def test_a_revoke_and_its_mending(self):
        self.check(START + plays("1:C2 2:C3 3:D4"), (TEXT, bytes_of("C2 C3 D4")), (mend("C4"), [0, 0]),
                   (TEXT, bytes_of("C2 C3 C4")))

    def test_undone(self):
        self.check(ONE_TRICK + plays("0:DK"), (undo(2), [0]), (TEXT, bytes_of("C2 C3 C4")))

    def test_behind_an_agreed_claim(self):
        self.check(ONE_TRICK + [claim(0, 2), AGREE], (TEXT, bytes_of("C2 C3 C4 CA")))

    def test_a_board_dealt_anew(self):
        self.check(ONE_TRICK + START, (TEXT, [0]))

    def test_it_can_be_played_as_a_script(self):
        text = "C2 C3 C4 CA H2 S2"
        self.check(ONE_TRICK + plays("0:H2 1:S2"), (TEXT, bytes_of(text)))
        self.check(START, (script(text), [0, 6, 0, 0, 0]), (TEXT, bytes_of(text)))


if __name__ == "__main__":
    unittest.main()
