import unittest

from tests.helper import (
    ACCEPT, NO_TRUMPS, TABLE, WITHDRAW, BoardCase, claim, deal, duty, mend, play, plays, table,
)

# Seat 0 declares, seat 2 is the dummy, seat 1 is on lead.
START = [deal(0, NO_TRUMPS, ["CA DK H2", "C2 D2 S2", "C3 D3 S3", "C4 D4 H4"])]


class WaitTest(BoardCase):

    def test_a_card_out_of_turn_waits_and_stays_in_the_hand(self):
        for seat, text in ((0, "CA"), (2, "C3"), (3, "C4")):
            self.check(START, (play(seat, text), [0, 1]), (TABLE, table(1, 0, 3, waits=1)),
                       (WITHDRAW, [0, 3 if seat == 3 else 4]), (play(seat, text), [0, 1]))

    def test_with_cards_on_the_table(self):
        self.check(START + plays("1:C2"), (play(3, "C4"), [0, 1]), (TABLE, table(2, 0, 3, waits=1, on_table="1:C2")),
                   (WITHDRAW, [0, 3]), (TABLE, table(2, 0, 3, on_table="1:C2")))

    def test_a_seat_that_has_played_to_the_trick_is_out_of_turn(self):
        self.check(START + plays("1:C2"), (play(1, "D2"), [0, 1]), (ACCEPT, [-10]), (WITHDRAW, [0, 3]))

    def test_a_card_out_of_turn_need_not_be_legal(self):
        self.check(START + plays("1:C2 2:C3"), (play(0, "H2"), [0, 1]), (WITHDRAW, [0, 4]))
        self.check(START + plays("1:C2 2:C3 3:C4 0:CA"), (play(2, "S3"), [0, 1]), (ACCEPT, [0, 0]))


class AcceptTest(BoardCase):

    def test_its_seat_was_on_lead(self):
        for seat, text in ((0, "CA"), (2, "C3"), (3, "C4")):
            self.check(START + [play(seat, text)], (ACCEPT, [0, 0]),
                       (TABLE, table((seat + 1) % 4, 0, 3, on_table=f"{seat}:{text}")),
                       (play(seat, text), [-6]))

    def test_the_trick_goes_on_from_it(self):
        self.check(START + [play(3, "C4"), ACCEPT] + plays("0:CA 1:C2 2:C3"), (TABLE, table(0, 1, 2)))
        self.check(START + [play(2, "S3"), ACCEPT] + plays("3:H4 0:H2"),
                   (TABLE, table(1, 0, 3, on_table="2:S3 3:H4 0:H2")),
                   (play(1, "S2"), [0, 0]), (TABLE, table(2, 1, 2)))

    def test_later_than_the_first_trick(self):
        self.check(START + plays("1:C2 2:C3 3:C4 0:CA 3:D4"), (TABLE, table(0, 1, 2, waits=1)), (ACCEPT, [0, 0]),
                   (TABLE, table(0, 1, 2, on_table="3:D4")))

    def test_any_card_may_be_accepted_though_another_presses(self):
        # H4 lies face up with seat 3, which then offers C4 out of turn.
        self.check(START + [play(3, "H4"), WITHDRAW, play(3, "C4")], (ACCEPT, [0, 0]),
                   (TABLE, table(0, 0, 3, on_table="3:C4")))

    def test_an_accepted_card_does_not_lie_face_up_any_more(self):
        # Seat 1 wins the trick that seat 3 led with its face-up card.
        hands = ["C2 D2", "CA D3", "C4 D4", "C5 D5"]
        before = [deal(0, NO_TRUMPS, hands), play(3, "C5"), WITHDRAW, play(3, "C5"), ACCEPT] + plays("0:C2 1:CA 2:C4")
        self.check(before, (TABLE, table(1, 1, 1)))
        self.check_refused(before, duty(1, "C"), -12)

    def test_nobody_has_a_duty_then(self):
        before = START + [play(3, "D4"), WITHDRAW, duty(1, "D"), play(3, "C4")]
        self.check(before, (TABLE, table(1, 0, 3, waits=1, kind=1, suit=1)), (ACCEPT, [0, 0]),
                   (TABLE, table(0, 0, 3, on_table="3:C4")))


class WithdrawTest(BoardCase):

    def test_a_defenders_card_lies_face_up_and_presses(self):
        hands = ["CA DK H2", "C2 D2 S2", "C3 D3 S3", "C4 C5 H4"]
        before = [deal(0, NO_TRUMPS, hands), play(3, "C5")]
        self.check(before, (WITHDRAW, [0, 3]), (TABLE, table(1, 0, 3)))
        self.check_refused(before + [WITHDRAW] + plays("1:C2 2:C3"), play(3, "C4"), -7)

    def test_the_declarers_and_the_dummys_card_does_not(self):
        # Were the withdrawn card face up, it would press when its seat follows in clubs.
        hands = ["C2 C3", "D2 D3", "C4 C5", "D4 D5"]
        start = [deal(0, NO_TRUMPS, hands)]
        before = start + [play(0, "C2")]
        self.check(before, (WITHDRAW, [0, 4]), (TABLE, table(1, 0, 2)))
        self.check(before + [WITHDRAW, play(2, "C4"), ACCEPT, play(3, "D4")], (play(0, "C3"), [0, 0]))
        before = start + [play(2, "C4")]
        self.check(before, (WITHDRAW, [0, 4]), (TABLE, table(1, 0, 2)))
        self.check(before + [WITHDRAW, play(0, "C2"), ACCEPT, play(1, "D2")], (play(2, "C5"), [0, 0]))

    def test_the_duty_stays(self):
        before = START + [play(3, "D4"), WITHDRAW, duty(2, "D"), play(3, "C4"), WITHDRAW]
        self.check(before, (TABLE, table(1, 0, 3, kind=2, suit=1)), (play(1, "D2"), [-7]), (play(1, "S2"), [0, 0]))

    def test_a_card_that_lies_face_up_already_still_does(self):
        self.check(START + [play(3, "D4"), WITHDRAW], (play(3, "D4"), [0, 1]), (WITHDRAW, [0, 3]),
                   (duty(1, "D"), [0, 0]), (TABLE, table(1, 0, 3, kind=1, suit=1)))
        # Taken up once by the duty, it is not face up a second time.
        before = START + [play(3, "D4"), WITHDRAW, play(3, "D4"), WITHDRAW, duty(2, "D")] + plays("1:C2 2:C3")
        self.check(before, (play(3, "H4"), [0, 2]), (mend("C4"), [0, 0]))

    def test_either_defender_of_either_side(self):
        hands = ["C2 D2", "C3 D3", "C4 D4", "C5 D5"]
        for declarer in range(4):
            for seat in range(4):
                if seat != (declarer + 1) % 4:
                    expected = 4 if (seat - declarer) % 2 == 0 else 3
                    self.check([deal(declarer, NO_TRUMPS, hands), [1, seat, seat]], (WITHDRAW, [0, expected]))


class DecideRefusalTest(BoardCase):

    def test_no_card_waits(self):
        for call in (ACCEPT, WITHDRAW):
            self.check_refused(START, call, -9)
            self.check_refused(START + plays("1:C2"), call, -9)
            self.check_refused(START + [claim(0, 1)], call, -9)
            self.check_refused(START + plays("3:C4") + [WITHDRAW], call, -9)
            self.check_refused(START + plays("3:C4") + [ACCEPT], call, -9)

    def test_not_accepted_with_a_card_on_the_table(self):
        for before in ("1:C2 3:C4", "1:C2 1:D2", "1:C2 2:C3 0:CA", "1:C2 2:C3 3:C4 2:D3"):
            self.check_refused(START + plays(before), ACCEPT, -10)


if __name__ == "__main__":
    unittest.main()
