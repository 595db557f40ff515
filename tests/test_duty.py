import unittest

from tests.helper import (
    ACCEPT, AGREE, NO_TRUMPS, TABLE, WITHDRAW, BoardCase, claim, deal, duty, mend, play, plays, table,
)

# Seat 1 is on lead, its partner 3 has shown C5, C6 and D5.
START = [deal(0, NO_TRUMPS, ["C2 D2 H2 S2", "C3 D3 H3 S3", "C4 D4 H4 S4", "C5 C6 D5 H5"])]
SHOWN = START + [play(3, "C5"), WITHDRAW, play(3, "C6"), WITHDRAW, play(3, "D5"), WITHDRAW]


class DutyTest(BoardCase):

    def test_to_lead_a_suit(self):
        before = SHOWN + [duty(1, "C")]
        self.check(SHOWN, (duty(1, "C"), [0, 0]), (TABLE, table(1, 0, 4, kind=1, suit=0)))
        for text in ("D3", "H3", "S3"):
            self.check_refused(before, play(1, text), -7)
        self.check(before, (play(1, "C3"), [0, 0]), (TABLE, table(2, 0, 4, on_table="1:C3")))

    def test_to_lead_another_suit(self):
        before = SHOWN + [duty(2, "D")]
        self.check(SHOWN, (duty(2, "D"), [0, 0]), (TABLE, table(1, 0, 4, kind=2, suit=1)))
        self.check_refused(before, play(1, "D3"), -7)
        for text in ("C3", "H3", "S3"):
            self.check(before, (play(1, text), [0, 0]), (TABLE, table(2, 0, 4, on_table=f"1:{text}")))

    def test_any_lead_if_the_suit_is_not_held(self):
        hands = ["C2 D2", "D3 H3", "C4 D4", "C5 D5"]
        before = [deal(0, NO_TRUMPS, hands), play(3, "C5"), WITHDRAW, duty(1, "C")]
        for text in ("D3", "H3"):
            self.check(before, (play(1, text), [0, 0]))

    def test_any_lead_if_no_other_suit_is_held(self):
        hands = ["C2 D2", "C3 C6", "C4 D4", "C5 D5"]
        before = [deal(0, NO_TRUMPS, hands), play(3, "C5"), WITHDRAW, duty(2, "C")]
        for text in ("C3", "C6"):
            self.check(before, (play(1, text), [0, 0]))

    def test_each_suit(self):
        hands = ["C2 D2 H2 S2", "C3 D3 H3 S3", "C4 D4 H4 S4", "C5 D5 H5 S5"]
        for place, suit in enumerate("CDHS"):
            before = [deal(0, NO_TRUMPS, hands), play(3, suit + "5"), WITHDRAW]
            for kind in (1, 2):
                self.check(before, (duty(kind, suit), [0, 0]), (TABLE, table(1, 0, 4, kind=kind, suit=place)))
            for other in "CDHS".replace(suit, ""):
                self.check_refused(before, duty(1, other), -12)

    def test_the_partners_cards_of_this_suit_do_not_lie_face_up_any_more(self):
        before = SHOWN + [duty(1, "C")] + plays("1:C3 2:C4")
        for text in ("C5", "C6"):
            self.check(before, (play(3, text), [0, 0]))
        self.check(before, (play(3, "H5"), [0, 2]))
        before = SHOWN + [duty(2, "D")] + plays("1:S3 2:S4")
        self.check(before, (play(3, "D5"), [-7]), (play(3, "H5"), [-7]), (play(3, "C5"), [0, 0]))

    def test_cards_of_other_suits_stay_face_up(self):
        before = SHOWN + [duty(1, "C")] + plays("1:C3 2:C4 3:C5 0:C2")
        self.check(before, (TABLE, table(3, 1, 3)), (play(3, "C6"), [-7]), (play(3, "H5"), [-7]),
                   (play(3, "D5"), [0, 0]))

    def test_the_leaders_own_face_up_card(self):
        # Seat 1 has C3 face up and seat 3 D5. What the duty leaves to seat 1 tells whether C3 presses.
        hands = ["C2 D2 H2", "CA C3 D3", "C4 D4 H4", "C5 D5 H5"]
        before = [deal(0, NO_TRUMPS, hands)] + plays("1:CA 1:C3") + [WITHDRAW] + plays("2:C4 3:D5") + [mend("C5")]
        before += plays("0:C2")
        self.check(before, (TABLE, table(1, 1, 2)), (play(1, "D3"), [-7]))
        self.check_refused(before + [duty(2, "D")], play(1, "D3"), -7)
        self.check(before + [duty(2, "D")], (play(1, "C3"), [0, 0]))
        self.check_refused(before + [duty(1, "D")], play(1, "C3"), -7)
        self.check(before + [duty(1, "D")], (play(1, "D3"), [0, 0]))

    def test_either_defender_and_either_side(self):
        hands = ["C2 D2", "C3 D3", "C4 D4", "C5 D5"]
        for declarer in range(4):
            lead, partner = (declarer + 1) % 4, (declarer + 3) % 4
            before = [deal(declarer, NO_TRUMPS, hands), [1, partner, 13 + partner], WITHDRAW]
            self.check(before, (duty(1, "D"), [0, 0]), (TABLE, table(lead, 0, 2, kind=1, suit=1)),
                       ([1, lead, lead], [-7]), ([1, lead, 13 + lead], [0, 0]))


class DutyRefusalTest(BoardCase):

    def test_over(self):
        self.check_refused(SHOWN + [claim(0, 4), AGREE], duty(1, "C"), -4)
        over = [deal(3, 0, ["C2", "C3", "C4", "C5"])] + plays("0:C2 1:C3 2:C4 3:C5")
        self.check_refused(over, duty(2, "C"), -4)

    def test_something_waits(self):
        self.check_refused(SHOWN + [claim(0, 4)], duty(1, "C"), -5)
        self.check_refused(SHOWN + [play(3, "H5")], duty(1, "C"), -5)

    def test_no_card_of_the_suit_lies_face_up(self):
        for suit in "CDHS":
            self.check_refused(START, duty(1, suit), -12)
        for suit in "HS":
            self.check_refused(SHOWN, duty(2, suit), -12)

    def test_a_card_that_was_played_does_not_lie_face_up_any_more(self):
        hands = ["C2 D2", "CA D3", "C4 D4", "C5 D5"]
        before = [deal(0, NO_TRUMPS, hands), play(3, "C5"), WITHDRAW] + plays("1:CA 2:C4 3:C5 0:C2")
        self.check(before, (TABLE, table(1, 1, 1)))
        self.check_refused(before, duty(2, "C"), -12)

    def test_a_second_duty(self):
        for kind in (1, 2):
            self.check_refused(SHOWN + [duty(kind, "C")], duty(1, "D"), -12)
            self.check_refused(SHOWN + [duty(kind, "C")], duty(2, "C"), -12)

    def test_a_card_on_the_table(self):
        self.check_refused(SHOWN + plays("1:H3"), duty(1, "C"), -12)
        # Here the seat on turn is a defender whose partner has a card face up.
        self.check_refused(SHOWN + [play(0, "S2"), ACCEPT], duty(1, "C"), -12)

    def test_the_declarer_or_the_dummy_on_lead(self):
        for hands, lead in ((["CA D2", "C3 D3", "C4 D4", "C5 D5"], 0), (["C2 D2", "C3 D3", "CA D4", "C5 D5"], 2)):
            first, third = ("CA", "C4") if lead == 0 else ("C2", "CA")
            before = [deal(0, NO_TRUMPS, hands), play(3, "D5"), WITHDRAW]
            before += [play(1, "C3"), play(2, third), play(3, "C5"), play(0, first)]
            self.check(before, (TABLE, table(lead, 1, 1)))
            self.check_refused(before, duty(1, "D"), -12)

    def test_the_leaders_own_card_is_not_the_partners(self):
        hands = ["C2 D2", "C3 D3", "C4 D4", "C5 D5"]
        before = [deal(0, NO_TRUMPS, hands), play(3, "D5"), WITHDRAW] + plays("1:C3 2:C4 3:C5 0:C2")
        self.check(before, (TABLE, table(3, 1, 1)))
        self.check_refused(before, duty(1, "D"), -12)


if __name__ == "__main__":
    unittest.main()
