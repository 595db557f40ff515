import unittest

from tests.helper import (
    ACCEPT, AGREE, FORGET, LEGAL, NO_TRUMPS, WITHDRAW, BoardCase, cards, claim, deal, duty, mend, play, plays, raw_deal,
    undo,
)

# Seat 0 declares, seat 2 is the dummy, seat 1 is on lead.
START = [deal(0, NO_TRUMPS, ["CA DK H2", "C2 D2 S2", "C3 D3 S3", "C4 D4 H4"])]

# Both defenders have two diamonds; D4 and D5 of seat 3 can come to lie face up.
DIAMONDS = [deal(0, NO_TRUMPS, ["CA DK H2", "C2 D2 D6", "C3 D3 S3", "C4 D4 D5"])]


class FollowingTest(BoardCase):

    def test_on_lead_all_cards(self):
        self.check(START, (LEGAL, cards("C2 D2 S2")))

    def test_sizes(self):
        for size in (1, 2, 3, 13):
            row = [k % 4 if k < 4 * size else 4 for k in range(52)]
            self.check([raw_deal(2, 0, row)], (LEGAL, [0] + list(range(3, 4 * size, 4))))

    def test_the_suit_led(self):
        self.check(START + plays("1:C2"), (LEGAL, cards("C3")), (play(2, "C3"), [0, 0]), (LEGAL, cards("C4")))
        self.check(DIAMONDS + plays("1:D2 2:D3"), (LEGAL, cards("D4 D5")))

    def test_without_the_suit_led_all_cards(self):
        self.check(START + plays("1:S2 2:S3"), (LEGAL, cards("C4 D4 H4")))

    def test_trumps_need_not_be_played(self):
        self.check([deal(0, 3, ["CA DK H2", "C2 D2 S2", "C3 D3 S3", "C4 D4 S4"])] + plays("1:C2 2:C3"),
                   (LEGAL, cards("C4")))

    def test_on_lead_behind_a_trick(self):
        self.check(START + plays("1:C2 2:C3 3:C4 0:CA"), (LEGAL, cards("DK H2")))

    def test_behind_an_accepted_card(self):
        self.check(START + plays("3:D4") + [ACCEPT], (LEGAL, cards("DK")))

    def test_a_card_left(self):
        self.check([deal(3, 0, ["C2", "C3", "C4", "C5"])] + plays("0:C2 1:C3 2:C4"), (LEGAL, cards("C5")))

    def test_behind_a_revoke_and_its_mending(self):
        self.check(START + plays("1:C2 2:C3 3:D4"), (LEGAL, cards("CA")), (mend("C4"), [0, 0]), (LEGAL, cards("CA")))

    def test_going_up_with_a_card_that_went_back(self):
        hands = ["C2 D2 D3", "CA DA S2", "C3 D4 S3", "C4 D5 S4"]
        before = [deal(0, NO_TRUMPS, hands)] + plays("1:CA 2:C3 3:C4 0:D2") + [mend("C2")] + plays("1:DA 2:D4 3:D5")
        self.check(before, (LEGAL, cards("D2 D3")))

    def test_undone(self):
        self.check(START + plays("1:C2 2:C3"), (undo(1), [0]), (LEGAL, cards("C3")), (undo(1), [0]),
                   (LEGAL, cards("C2 D2 S2")))


class PressingTest(BoardCase):

    def test_on_lead(self):
        # Seat 3 wins the first trick and then is on lead.
        hands = ["CK DK H2", "C2 D2 S2", "C3 D3 S3", "CA D4 H4"]
        before = [deal(0, NO_TRUMPS, hands)] + plays("3:H4") + [WITHDRAW]
        self.check(before + plays("1:C2 2:C3"), (LEGAL, cards("CA")))
        self.check(before + plays("1:C2 2:C3 3:CA 0:CK"), (LEGAL, cards("H4")))

    def test_several_going_up(self):
        hands = ["CK DK H2", "C2 D2 S2", "C3 D3 S3", "CA D4 H4"]
        before = [deal(0, NO_TRUMPS, hands)] + plays("3:H4") + [WITHDRAW] + plays("3:D4") + [WITHDRAW]
        self.check(before + plays("1:C2 2:C3 3:CA 0:CK"), (LEGAL, cards("D4 H4")))

    def test_following(self):
        before = DIAMONDS + plays("3:D5") + [WITHDRAW]
        self.check(before + plays("1:D2 2:D3"), (LEGAL, cards("D5")))
        self.check(before + plays("1:C2 2:C3"), (LEGAL, cards("C4")))

    def test_a_card_of_another_suit_presses_if_none_follows(self):
        before = START + plays("3:H4") + [WITHDRAW] + plays("1:S2 2:S3")
        self.check(before, (LEGAL, cards("H4")))

    def test_a_partners_card_does_not(self):
        self.check(DIAMONDS + plays("3:D5") + [WITHDRAW], (LEGAL, cards("C2 D2 D6")))

    def test_the_declarers_and_the_dummys_withdrawn_cards_do_not(self):
        hands = ["C2 C3", "D2 CK", "C4 C5", "D4 CA"]
        before = [deal(0, NO_TRUMPS, hands), play(0, "C2"), WITHDRAW, play(2, "C4"), WITHDRAW]
        self.check(before + plays("1:CK"), (LEGAL, cards("C4 C5")), (play(2, "C4"), [0, 0]), (play(3, "CA"), [0, 0]),
                   (LEGAL, cards("C2 C3")))

    def test_a_revoke_put_right(self):
        hands = ["CA DA H2", "C2 D2 S2", "C3 D3 S3", "C4 D4 D5"]
        before = [deal(0, NO_TRUMPS, hands)] + plays("1:C2 2:C3 3:D5") + [mend("C4")] + plays("0:CA 0:DA 1:D2 2:D3")
        self.check(before, (LEGAL, cards("D5")))


class DutyTest(BoardCase):

    FACED = DIAMONDS + plays("3:D5") + [WITHDRAW]

    def test_to_lead_a_suit(self):
        self.check(self.FACED + [duty(1, "D")], (LEGAL, cards("D2 D6")))

    def test_to_lead_a_suit_that_the_hand_lacks(self):
        before = START + plays("3:H4") + [WITHDRAW, duty(1, "H")]
        self.check(before, (LEGAL, cards("C2 D2 S2")))

    def test_to_lead_another(self):
        self.check(self.FACED + [duty(2, "D")], (LEGAL, cards("C2")))

    def test_to_lead_another_with_none_in_the_hand(self):
        hands = ["CA DK", "D2 D6", "C3 D3", "C4 D5"]
        before = [deal(0, NO_TRUMPS, hands)] + plays("3:D5") + [WITHDRAW, duty(2, "D")]
        self.check(before, (LEGAL, cards("D2 D6")))

    def test_with_cards_that_press(self):
        # Seat 3 comes on lead with its own D4 and C6 face up, and D6 of its partner.
        hands = ["H4 S9 ST SJ SQ", "H2 D6 S2 S3 S4", "H3 S5 S6 S7 S8", "HA D4 D5 C6 C7"]
        before = [deal(0, NO_TRUMPS, hands), play(3, "D4"), WITHDRAW, play(3, "C6"), WITHDRAW]
        before += [play(1, "H2"), play(1, "D6"), WITHDRAW] + plays("2:H3 3:HA 0:H4")
        self.check(before, (LEGAL, cards("C6 D4")))
        self.check(before + [duty(1, "D")], (LEGAL, cards("D4")))
        self.check(before + [duty(2, "D")], (LEGAL, cards("C6")))

    def test_no_duty_any_more_behind_the_lead(self):
        self.check(self.FACED + [duty(2, "D")] + plays("1:C2 2:C3"), (LEGAL, cards("C4")))


class LegalRefusalTest(BoardCase):

    def test_over(self):
        over = [deal(3, 0, ["C2", "C3", "C4", "C5"])] + plays("0:C2 1:C3 2:C4 3:C5")
        self.check_refused(over, LEGAL, -4)
        self.check_refused(START + [claim(0, 1), AGREE], LEGAL, -4)

    def test_something_waits(self):
        self.check_refused(START + plays("3:C4"), LEGAL, -5)
        self.check_refused(START + plays("1:C2 3:C4"), LEGAL, -5)
        self.check_refused(START + [claim(0, 1)], LEGAL, -5)

    def test_nothing_waits_any_more(self):
        self.check(START + plays("3:C4") + [WITHDRAW], (LEGAL, cards("C2 D2 S2")))
        self.check(START + [claim(0, 1), FORGET], (LEGAL, cards("C2 D2 S2")))
        self.check(START + [claim(0, 1), AGREE, undo(2)], (LEGAL, cards("C2 D2 S2")))

    def test_a_board_dealt_anew(self):
        faced = DIAMONDS + plays("3:D5") + [WITHDRAW, duty(2, "D")]
        self.check(faced + DIAMONDS, (LEGAL, cards("C2 D2 D6")), (play(1, "D2"), [0, 0]), (play(2, "D3"), [0, 0]),
                   (LEGAL, cards("D4 D5")))
        self.check(START + [claim(0, 1), AGREE] + START, (LEGAL, cards("C2 D2 S2")))


if __name__ == "__main__":
    unittest.main()
