import unittest

from tests.helper import (
    ACCEPT, AGREE, FACED, FORGET, LEGAL, NO_TRUMPS, WITHDRAW, BoardCase, cards, claim, deal, duty, mend, pairs, play,
    plays, script, undo,
)

# Seat 0 declares, seat 2 is the dummy, seat 1 is on lead.
START = [deal(0, NO_TRUMPS, ["CA DK H2 H3", "C2 D2 S2 S4", "C3 D3 S3 S5", "C4 C5 D4 H4"])]


def faced_up(text):
    """Each of these cards is played out of turn, and withdrawn."""
    calls = []
    for call in plays(text):
        calls += [call, WITHDRAW]
    return calls


class FacedTest(BoardCase):

    def test_none(self):
        self.check(START, (FACED, [0]))
        self.check(START + plays("1:C2 2:C3"), (FACED, [0]))

    def test_a_withdrawn_card(self):
        self.check(START + [play(3, "D4")], (FACED, [0]), (WITHDRAW, [0, 3]), (FACED, [0, 3, 15]))

    def test_in_the_order_in_which_they_came_to_lie_so(self):
        self.check(START + faced_up("3:H4 3:C4 3:D4"), (FACED, pairs("3:H4 3:C4 3:D4")))
        self.check(START + faced_up("3:D4") + plays("1:C2") + faced_up("1:S4 3:C5 1:D2"),
                   (FACED, pairs("3:D4 1:S4 3:C5 1:D2")))

    def test_not_of_the_declarer_and_the_dummy(self):
        self.check(START + faced_up("0:CA 2:C3 3:C4 0:DK"), (FACED, pairs("3:C4")))

    def test_of_the_defenders_of_either_side(self):
        hands = ["C2 D2", "C3 D3", "C4 D4", "C5 D5"]
        for declarer in range(4):
            for seat in range(4):
                if seat != (declarer + 1) % 4:
                    expected = [0] if (seat - declarer) % 2 == 0 else [0, seat, seat]
                    self.check([deal(declarer, NO_TRUMPS, hands), [1, seat, seat], WITHDRAW], (FACED, expected))

    def test_withdrawn_twice_it_keeps_its_first_place(self):
        before = START + faced_up("3:H4 3:C4") + [play(3, "H4")]
        self.check(before, (FACED, pairs("3:H4 3:C4")), (WITHDRAW, [0, 3]), (FACED, pairs("3:H4 3:C4")))

    def test_a_card_that_is_played(self):
        before = START + faced_up("3:H4 3:C4 3:D4") + plays("1:C2 2:C3")
        self.check(before, (FACED, pairs("3:H4 3:C4 3:D4")), (play(3, "C4"), [0, 0]), (FACED, pairs("3:H4 3:D4")))

    def test_a_card_that_is_accepted(self):
        before = START + faced_up("3:H4 3:C4 3:D4") + [play(3, "H4")]
        self.check(before, (FACED, pairs("3:H4 3:C4 3:D4")), (ACCEPT, [0, 0]), (FACED, pairs("3:C4 3:D4")))

    def test_a_card_that_a_script_plays(self):
        before = START + faced_up("3:H4 3:C4")
        self.check(before, (script("C2 C3 C4"), [0, 3, 0, 0, 0]), (FACED, pairs("3:H4")))

    def test_cards_that_a_duty_picks_up(self):
        before = START + faced_up("3:C5 3:H4 3:C4")
        for kind in (1, 2):
            self.check(before + [duty(kind, "C")], (FACED, pairs("3:H4")))
            self.check(before + [duty(kind, "H")], (FACED, pairs("3:C5 3:C4")))

    def test_a_duty_leaves_the_leaders_own_cards(self):
        # Seat 3 comes on lead with D4 and C6 face up itself, and D6 and S3 of its partner.
        hands = ["H4 S9 ST SJ SQ", "H2 D6 S2 S3 S4", "H3 S5 S6 S7 S8", "HA D4 D5 C6 C7"]
        before = [deal(0, NO_TRUMPS, hands)] + faced_up("3:D4 3:C6") + plays("1:H2") + faced_up("1:D6 1:S3")
        before += plays("2:H3 3:HA 0:H4")
        self.check(before, (FACED, pairs("3:D4 3:C6 1:D6 1:S3")))
        self.check(before + [duty(2, "D")], (FACED, pairs("3:D4 3:C6 1:S3")))
        self.check(before + [duty(1, "S")], (FACED, pairs("3:D4 3:C6 1:D6")))

    def test_withdrawn_again_behind_a_duty_it_comes_last(self):
        before = START + faced_up("3:H4 3:C4") + [duty(1, "H")] + faced_up("3:H4")
        self.check(before, (FACED, pairs("3:C4 3:H4")))

    def test_a_revoke_put_right(self):
        before = START + faced_up("3:H4") + plays("1:C2 2:C3 3:D4")
        self.check(before, (FACED, pairs("3:H4")), (mend("C5"), [0, 0]), (FACED, pairs("3:H4 3:D4")))

    def test_a_revoke_put_right_whose_card_lay_face_up_comes_last(self):
        before = START + faced_up("3:H4 3:D4") + plays("1:C2 2:C3 3:H4")
        self.check(before, (FACED, pairs("3:D4")), (mend("C5"), [0, 0]), (FACED, pairs("3:D4 3:H4")))

    def test_the_declarers_revoke_put_right(self):
        before = START + faced_up("3:H4") + plays("1:C2 2:C3 3:C4 0:DK") + [mend("CA")]
        self.check(before, (FACED, pairs("3:H4")))

    def test_a_revoke_that_was_not_put_right(self):
        self.check(START + plays("1:C2 2:C3 3:D4 0:CA"), (FACED, [0]))

    def test_behind_claims(self):
        before = START + faced_up("3:H4 3:C4") + [claim(0, 2)]
        for y in (AGREE, FORGET):
            self.check(before + [y], (FACED, pairs("3:H4 3:C4")))

    def test_a_board_that_was_played_out(self):
        before = [deal(0, NO_TRUMPS, ["C2", "C3", "C4", "C5"])] + faced_up("3:C5")
        self.check(before, (script("C3 C4 C5 C2"), [0, 4, 0, 0, 0]), (FACED, [0]))

    def test_a_board_dealt_anew(self):
        self.check(START + faced_up("3:H4 3:C4") + START, (FACED, [0]), (undo(1), [-15]))

    def test_a_refused_deal_leaves_them(self):
        self.check_refused(START + faced_up("3:H4 3:C4"), deal(0, 0, ["C2", "C3", "C4", "C5 C6"]), -2)


class UndoneFacedTest(BoardCase):

    def test_withdrawn(self):
        before = START + faced_up("3:H4 3:C4 3:D4")
        self.check(before, (undo(1), [0]), (FACED, pairs("3:H4 3:C4")), (undo(3), [0]), (FACED, pairs("3:H4")),
                   (undo(2), [0]), (FACED, [0]))

    def test_withdrawn_twice(self):
        before = START + faced_up("3:H4 3:C4 3:H4")
        self.check(before, (undo(2), [0]), (FACED, pairs("3:H4 3:C4")), (undo(2), [0]), (FACED, pairs("3:H4")))

    def test_played(self):
        before = START + faced_up("3:H4 3:C4 3:D4") + plays("1:C2 2:C3 3:C4")
        self.check(before, (undo(1), [0]), (FACED, pairs("3:H4 3:C4 3:D4")), (LEGAL, cards("C4")))

    def test_picked_up_by_a_duty(self):
        before = START + faced_up("3:C5 3:H4 3:C4") + [duty(1, "C")] + plays("1:C2")
        self.check(before, (undo(1), [0]), (FACED, pairs("3:H4")), (undo(1), [0]), (FACED, pairs("3:C5 3:H4 3:C4")))

    def test_put_right(self):
        before = START + faced_up("3:H4 3:D4") + plays("1:C2 2:C3 3:H4") + [mend("C5")]
        self.check(before, (undo(1), [0]), (FACED, pairs("3:D4")), (undo(1), [0]), (FACED, pairs("3:H4 3:D4")))


if __name__ == "__main__":
    unittest.main()
