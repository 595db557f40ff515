import unittest

from tests.helper import (
    ACCEPT, FORGET, NO_TRUMPS, TABLE, WITHDRAW, BoardCase, claim, deal, duty, mend, play, plays, run, table,
    undo,
)

# Seat 0 declares; clubs are led to the revokes of seat 3 (third to play) and seat 0 (fourth).
START = [deal(0, NO_TRUMPS, ["CA CK DK H2", "C2 D2 S2 S4", "C3 D3 S3 S5", "C4 C5 D4 H4"])]
THIRD = START + plays("1:C2 2:C3 3:D4")
FOURTH = START + plays("1:C2 2:C3 3:C4 0:DK")


class MendTest(BoardCase):

    def test_the_other_card_is_played(self):
        self.check(THIRD, (mend("C4"), [0, 0]), (TABLE, table(0, 0, 4, on_table="1:C2 2:C3 3:C4")),
                   (play(3, "C4"), [-6]), (play(3, "D4"), [0, 1]))

    def test_each_legal_card_mends(self):
        for text in ("C4", "C5"):
            self.check(THIRD, (mend(text), [0, 0]), (TABLE, table(0, 0, 4, on_table=f"1:C2 2:C3 3:{text}")))

    def test_a_defenders_card_lies_face_up_then(self):
        hands = ["CA DK", "C2 D2", "C3 D3", "C4 D4"]
        before = [deal(2, NO_TRUMPS, ["C3 D3", "C4 D4", "C2 D2", "CA DK"])] + plays("3:CA 0:C3 1:D4")
        self.check(before + [mend("C4")] + plays("2:C2"), (TABLE, table(3, 1, 1)), (duty(1, "D"), [0, 0]))
        before = [deal(0, NO_TRUMPS, hands)] + plays("1:C2 2:C3 3:D4")
        self.check_refused(before + plays("0:CA"), duty(1, "D"), -12)

    def test_the_mended_card_presses_later(self):
        hands = ["CA DA H2", "C2 D2 S2", "C3 D3 S3", "C4 D4 D5"]
        before = [deal(0, NO_TRUMPS, hands)] + plays("1:C2 2:C3 3:D4") + [mend("C4")] + plays("0:CA 0:DA 1:D2 2:D3")
        self.check_refused(before, play(3, "D5"), -7)
        self.check(before, (play(3, "D4"), [0, 0]))

    def test_a_card_that_lay_face_up_lies_so_again(self):
        hands = ["CA DA H2", "C2 D2 S2", "C3 D3 S3", "C4 D4 D5"]
        before = [deal(0, NO_TRUMPS, hands), play(3, "D4"), WITHDRAW] + plays("1:C2 2:C3 3:D4")
        before += [mend("C4")] + plays("0:CA 0:DA 1:D2 2:D3")
        self.check_refused(before, play(3, "D5"), -7)

    def test_the_declarers_card_does_not_lie_face_up(self):
        hands = ["C2 D2 D3", "CA DA S2", "C3 D4 S3", "C4 D5 S4"]
        before = [deal(0, NO_TRUMPS, hands)] + plays("1:CA 2:C3 3:C4 0:D3") + [mend("C2")] + plays("1:DA 2:D4 3:D5")
        for text in ("D2", "D3"):
            self.check(before, (play(0, text), [0, 0]))

    def test_a_revoke_that_finished_the_trick(self):
        self.check(FOURTH, (TABLE, table(3, 1, 3)), (mend("CA"), [0, 0]), (TABLE, table(0, 1, 3)),
                   (play(0, "CA"), [-6]), (play(0, "DK"), [0, 0]))

    def test_a_trick_won_by_the_revoke_goes_to_another(self):
        before = [deal(0, 1, ["C4 D2", "C2 H2", "C3 H3", "CA H4"])] + plays("1:C2 2:C3 3:CA 0:D2")
        self.check(before, (TABLE, table(0, 1, 1)), (mend("C4"), [0, 0]), (TABLE, table(3, 1, 1)))

    def test_a_defenders_revoke_that_finished_the_trick(self):
        # Seat 0 wins the first trick and leads, so that seat 3 plays last to the second.
        hands = ["CA CK H2", "C2 C6 S2", "C3 C7 S3", "C4 C5 D4"]
        before = [deal(0, NO_TRUMPS, hands)] + plays("1:C2 2:C3 3:C4 0:CA 0:CK 1:C6 2:C7 3:D4")
        self.check(before, (TABLE, table(0, 2, 1)), (mend("C5"), [0, 0]), (TABLE, table(0, 2, 1)),
                   (play(0, "H2"), [0, 0]))

    def test_earlier_tricks_stay(self):
        hands = ["CA CK H2", "C2 C6 S2", "C3 C7 S3", "C4 C5 D4"]
        before = [deal(0, NO_TRUMPS, hands)] + plays("1:C2 2:C3 3:C4 0:CA 0:CK 1:C6 2:C7 3:D4") + [mend("C5")]
        self.check(before, (undo(1), [0]), (TABLE, table(0, 2, 1)), (mend("C5"), [0, 0]), (undo(2), [0]),
                   (TABLE, table(3, 1, 2, on_table="0:CK 1:C6 2:C7")))

    def test_a_revoke_with_a_card_that_lay_face_up(self):
        before = START + [play(3, "H4"), WITHDRAW] + plays("1:C2 2:C3 3:H4")
        self.check(before, (mend("D4"), [-7]), (mend("C5"), [0, 0]))


class FreshTest(BoardCase):

    def test_the_next_thing_done_ends_it(self):
        for call in (play(0, "CA"), play(3, "C5"), play(1, "D2")):
            self.check_refused(THIRD + [call], mend("C4"), -11)
        self.check_refused(FOURTH + [claim(0, 1)], mend("CA"), -11)
        self.check_refused(FOURTH + [claim(0, 1), FORGET], mend("CA"), -11)
        self.check_refused(FOURTH + [play(0, "CA")], mend("CK"), -11)
        self.check_refused(FOURTH + [play(0, "CA"), ACCEPT], mend("CK"), -11)
        self.check_refused(FOURTH + [play(0, "CA"), WITHDRAW], mend("CK"), -11)

    def test_a_duty_ends_it(self):
        before = [deal(0, NO_TRUMPS, ["CK DK", "C2 D2", "C3 D3", "CA D4"])] + plays("1:C2 1:D2") + [WITHDRAW]
        before += plays("2:C3 3:CA 0:DK")
        self.check(before, (TABLE, table(3, 1, 1)), (mend("CK"), [0, 0]))
        self.check_refused(before + [duty(1, "D")], mend("CK"), -11)

    def test_questions_refusals_and_undoing_nothing_do_not(self):
        for call in (TABLE, undo(0), undo(400), play(0, "SA"), [1, 4, 0], mend("D4"), mend("H4"), ACCEPT, FORGET,
                     duty(1, "C"), claim(0, 1), [0, 0, 0, 0]):
            self.assertEqual(run(THIRD + [call, mend("C4")])[-1], [0, 0], call)

    def test_put_right_once(self):
        self.check_refused(THIRD + [mend("C4")], mend("C5"), -11)
        self.check_refused(THIRD + [mend("C4")], mend("D4"), -11)

    def test_a_second_revoke_is_fresh_in_the_place_of_the_first(self):
        self.check(THIRD + plays("0:H2"), (mend("CK"), [0, 0]), (TABLE, table(0, 1, 3)))


class MendRefusalTest(BoardCase):

    def test_no_revoke(self):
        for before in (START, START + plays("1:C2"), START + plays("3:D4"), START + [claim(0, 0)]):
            self.check_refused(before, mend("C4"), -11)

    def test_card_is_not_legal_then(self):
        # The revoke's own card, another suit, another's hand, a card that was played, one of nobody.
        for text in ("D4", "H4", "CA", "C2", "SA"):
            self.check_refused(THIRD, mend(text), -7)
        for text in ("DK", "H2", "C5", "C4"):
            self.check_refused(FOURTH, mend(text), -7)


if __name__ == "__main__":
    unittest.main()
