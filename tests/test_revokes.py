import unittest

from tests.helper import (
    ACCEPT, AGREE, NO_TRUMPS, REVOKES, TEXT, WITHDRAW, BoardCase, bytes_of, claim, deal, mend, play, plays, script,
    undo,
)

CLUBS = 0
DIAMONDS = 1

# Seat 0 declares, seat 2 is the dummy, seat 1 is on lead.
START = [deal(0, NO_TRUMPS, ["CA CK DK H2", "C2 C6 D2 S2", "C3 C7 D3 S3", "C4 C5 D4 H4"])]
THIRD = START + plays("1:C2 2:C3 3:D4")


class RevokesTest(BoardCase):

    def test_none(self):
        self.check(START, (REVOKES, [0]))
        self.check(START + plays("1:C2 2:C3 3:C4 0:CA"), (REVOKES, [0]))

    def test_the_seat_the_trick_and_the_suit(self):
        self.check(THIRD, (REVOKES, [0, 3, 1, CLUBS]))
        self.check(START + plays("1:D2 2:D3 3:H4"), (REVOKES, [0, 3, 1, DIAMONDS]))

    def test_by_the_last_card_of_a_trick(self):
        self.check(START + plays("1:C2 2:C3 3:C4 0:H2"), (REVOKES, [0, 0, 1, CLUBS]))

    def test_in_a_later_trick(self):
        before = START + plays("1:C2 2:C3 3:C4 0:CA 0:CK 1:C6 2:C7")
        self.check(before + plays("3:H4"), (REVOKES, [0, 3, 2, CLUBS]))
        before += plays("3:C5 0:DK 1:S2")
        self.check(before, (REVOKES, [0, 1, 3, DIAMONDS]))

    def test_several_in_order(self):
        before = THIRD + plays("0:H2")
        self.check(before, (REVOKES, [0, 3, 1, CLUBS, 0, 1, CLUBS]))
        before = START + plays("1:C2 2:C3 3:D4 0:CA 0:CK 1:D2 2:C7 3:H4")
        self.check(before, (REVOKES, [0, 3, 1, CLUBS, 1, 2, CLUBS, 3, 2, CLUBS]))

    def test_a_board_that_is_over_keeps_them(self):
        before = THIRD + plays("0:CA")
        self.check(before + [claim(0, 3), AGREE], (REVOKES, [0, 3, 1, CLUBS]))
        before = [deal(0, NO_TRUMPS, ["CA D2", "C2 D3", "C3 D4", "C4 D5"]), script("C2 C3 D5 CA D2 D3 D4 C4")]
        self.check(before, (REVOKES, [0, 3, 1, CLUBS]))

    def test_put_right_it_is_none_any_more(self):
        self.check(THIRD + [mend("C4")], (REVOKES, [0]))
        self.check(START + plays("1:C2 2:C3 3:C4 0:H2") + [mend("CK")], (REVOKES, [0]))

    def test_only_the_fresh_one_is_put_right(self):
        self.check(THIRD + plays("0:H2") + [mend("CA")], (REVOKES, [0, 3, 1, CLUBS]))

    def test_another_behind_one_put_right(self):
        before = THIRD + [mend("C4")] + plays("0:H2")
        self.check(before, (REVOKES, [0, 0, 1, CLUBS]))

    def test_a_refused_mending_leaves_it(self):
        self.check_refused(THIRD, mend("H4"), -7)
        self.check(THIRD, (mend("H4"), [-7]), (REVOKES, [0, 3, 1, CLUBS]))

    def test_what_is_no_revoke(self):
        # A card that waits, one that is accepted, the dummy's that is refused, one of a seat without the suit.
        self.check(START + plays("1:C2 3:D4"), (REVOKES, [0]), (WITHDRAW, [0, 3]), (REVOKES, [0]))
        self.check(START + [play(3, "D4"), ACCEPT], (REVOKES, [0]))
        self.check(START + plays("1:C2"), (play(2, "D3"), [-8]), (REVOKES, [0]))
        self.check(START + plays("1:S2 2:S3 3:H4 0:H2"), (REVOKES, [0]))

    def test_asking_does_not_end_a_fresh_one(self):
        self.check(THIRD, (REVOKES, [0, 3, 1, CLUBS]), (mend("C4"), [0, 0]), (REVOKES, [0]))

    def test_a_board_dealt_anew(self):
        self.check(THIRD + START, (REVOKES, [0]), (mend("C4"), [-11]))


class UndoneRevokesTest(BoardCase):

    def test_the_revoke(self):
        self.check(THIRD + plays("0:H2"), (undo(1), [0]), (REVOKES, [0, 3, 1, CLUBS]), (undo(1), [0]), (REVOKES, [0]))

    def test_its_mending(self):
        self.check(THIRD + [mend("C4")], (REVOKES, [0]), (undo(1), [0]), (REVOKES, [0, 3, 1, CLUBS]),
                   (mend("C5"), [0, 0]), (REVOKES, [0]), (TEXT, bytes_of("C2 C3 C5")))

    def test_the_mending_of_the_second_of_two(self):
        before = THIRD + plays("0:H2") + [mend("CA")]
        self.check(before, (undo(1), [0]), (REVOKES, [0, 3, 1, CLUBS, 0, 1, CLUBS]), (undo(1), [0]),
                   (REVOKES, [0, 3, 1, CLUBS]), (mend("C4"), [0, 0]), (REVOKES, [0]))


if __name__ == "__main__":
    unittest.main()
