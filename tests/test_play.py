import unittest

from tests.helper import (
    AGREE, NO_TRUMPS, TABLE, WITHDRAW, BoardCase, claim, deal, duty, play, plays, raw_deal, run, table,
)

HANDS = ["CA DK H2", "C2 D2 S2", "C3 D3 S3", "C4 D4 H4"]
START = [deal(0, NO_TRUMPS, HANDS)]


class TurnTest(BoardCase):

    def test_cards_go_round_and_the_fourth_finishes_the_trick(self):
        self.check(START,
                   (play(1, "C2"), [0, 0]), (TABLE, table(2, 0, 3, on_table="1:C2")),
                   (play(2, "C3"), [0, 0]), (TABLE, table(3, 0, 3, on_table="1:C2 2:C3")),
                   (play(3, "C4"), [0, 0]), (TABLE, table(0, 0, 3, on_table="1:C2 2:C3 3:C4")),
                   (play(0, "CA"), [0, 0]), (TABLE, table(0, 1, 2)))

    def test_whole_board(self):
        self.check(START + plays("1:C2 2:C3 3:C4 0:CA 0:DK 1:D2 2:D3 3:D4 0:H2 1:S2 2:S3"),
                   (TABLE, table(3, 2, 1, on_table="0:H2 1:S2 2:S3")),
                   (play(3, "H4"), [0, 0]), (TABLE, table(3, 3, 0, over=1)))

    def test_thirteen_tricks(self):
        # Seat p holds suit p alone, so the leader wins every trick without trumps.
        calls = [raw_deal(3, NO_TRUMPS, [k // 13 for k in range(52)])]
        for rank in range(13):
            calls += [[1, seat, seat * 13 + rank] for seat in range(4)]
        self.check(calls[:-1], (TABLE, [0, 3, 12, 1, 0, 0, 0, 0, 0, 12, 1, 25, 2, 38]))
        self.check(calls, (TABLE, table(0, 13, 0, over=1)), ([1, 0, 0], [-4]))


class WinnerTest(BoardCase):

    def winner(self, trump, hands, order):
        return run([deal(3, trump, hands)] + plays(order) + [TABLE])[-1][1]

    def test_each_trump_wins(self):
        hands = ["CA", "D2", "H2", "S2"]
        order = "0:CA 1:D2 2:H2 3:S2"
        for trump, seat in ((0, 0), (1, 1), (2, 2), (3, 3), (NO_TRUMPS, 0)):
            self.assertEqual(self.winner(trump, hands, order), seat, trump)

    def test_greatest_trump_wins_wherever_it_is(self):
        self.assertEqual(self.winner(1, ["CA", "D9", "DT", "D8"], "0:CA 1:D9 2:DT 3:D8"), 2)
        self.assertEqual(self.winner(1, ["D3", "DK", "DA", "D2"], "0:D3 1:DK 2:DA 3:D2"), 2)

    def test_greatest_of_the_suit_led_wins_without_a_trump_played(self):
        self.assertEqual(self.winner(3, ["H9", "HJ", "DA", "HT"], "0:H9 1:HJ 2:DA 3:HT"), 1)
        self.assertEqual(self.winner(NO_TRUMPS, ["C2", "SA", "HA", "DA"], "0:C2 1:SA 2:HA 3:DA"), 0)
        self.assertEqual(self.winner(NO_TRUMPS, ["CQ", "CK", "CT", "CJ"], "0:CQ 1:CK 2:CT 3:CJ"), 1)

    def test_lowest_trump_beats_the_ace_led(self):
        self.assertEqual(self.winner(0, ["SA", "SK", "SQ", "C2"], "0:SA 1:SK 2:SQ 3:C2"), 3)

    def test_winner_leads_next(self):
        self.check([deal(0, 1, ["CA H2", "C2 H3", "D2 H4", "C4 H5"])] + plays("1:C2 2:D2 3:C4 0:CA"),
                   (TABLE, table(2, 1, 1)), (play(2, "H4"), [0, 0]), (TABLE, table(3, 1, 1, on_table="2:H4")))


class FollowTest(BoardCase):

    def test_a_seat_without_the_suit_led_plays_any_card(self):
        before = [deal(3, 0, ["CA C2", "D2 H2", "C3 C4", "C5 C6"])] + plays("0:CA")
        for text in ("D2", "H2"):
            self.check(before, (play(1, text), [0, 0]))

    def test_revoke_of_a_defender_and_of_the_declarer(self):
        self.check(START + plays("1:C2 2:C3"), (play(3, "D4"), [0, 2]),
                   (TABLE, table(0, 0, 3, on_table="1:C2 2:C3 3:D4")),
                   (play(0, "H2"), [0, 2]), (TABLE, table(2, 1, 2)))

    def test_the_dummy_cannot_revoke(self):
        for text in ("D3", "S3"):
            self.check_refused(START + plays("1:C2"), play(2, text), -8)

    def test_any_declarer_has_its_own_dummy(self):
        # Seat p holds card p of clubs and card 13 + p of diamonds.
        hands = ["C2 D2", "C3 D3", "C4 D4", "C5 D5"]
        for declarer in range(4):
            lead, dummy, last = [(declarer + k) % 4 for k in (1, 2, 3)]
            before = [deal(declarer, NO_TRUMPS, hands), [1, lead, lead]]
            self.check_refused(before, [1, dummy, 13 + dummy], -8)
            self.check(before + [[1, dummy, dummy]],
                       ([1, last, 13 + last], [0, 2]), ([1, declarer, 13 + declarer], [0, 2]))

    def test_the_only_card_is_never_a_revoke(self):
        self.check([deal(3, NO_TRUMPS, ["CA", "D2", "H2", "S2"])] + plays("0:CA"), (play(1, "D2"), [0, 0]))


class PressTest(BoardCase):

    # Seat 3 has shown D4 and H4 out of turn.
    BEFORE = [deal(0, NO_TRUMPS, ["CA DK H2 S5", "C2 D2 D7 S2", "C3 D3 D8 S3", "C4 D4 D9 H4"]),
              play(3, "D4"), WITHDRAW, play(3, "H4"), WITHDRAW]

    def test_of_the_cards_that_follow_the_one_face_up_must_be_played(self):
        before = self.BEFORE + plays("1:D2 2:D3")
        self.check_refused(before, play(3, "D9"), -7)
        self.check(before, (play(3, "D4"), [0, 0]), (TABLE, table(0, 0, 4, on_table="1:D2 2:D3 3:D4")))

    def test_no_revoke_while_a_card_presses(self):
        for text in ("C4", "H4"):
            self.check_refused(self.BEFORE + plays("1:D2 2:D3"), play(3, text), -7)

    def test_face_up_cards_that_do_not_follow_do_not_press(self):
        before = self.BEFORE + plays("1:C2 2:C3")
        self.check(before, (play(3, "C4"), [0, 0]))
        self.check(before, (play(3, "D9"), [0, 2]))
        self.check(before, (play(3, "D4"), [0, 2]))

    def test_without_the_suit_led_face_up_cards_press(self):
        before = self.BEFORE + plays("1:S2 2:S3")
        for text in ("C4", "D9"):
            self.check_refused(before, play(3, text), -7)
        for text in ("D4", "H4"):
            self.check(before, (play(3, text), [0, 0]))

    def test_on_lead_a_face_up_card_must_be_led(self):
        hands = ["C2 D2 H2", "C3 D3 H3", "C4 D4 H4", "C5 D5 H5"]
        before = [deal(0, NO_TRUMPS, hands), play(3, "D5"), WITHDRAW] + plays("1:C3 2:C4 3:C5 0:C2")
        self.check_refused(before, play(3, "H5"), -7)
        self.check(before, (play(3, "D5"), [0, 0]))

    def test_a_card_played_does_not_press_any_more(self):
        hands = ["CA DA H2", "C2 D2 H3", "C3 D3 H4", "C4 D4 H5"]
        before = [deal(0, NO_TRUMPS, hands), play(3, "D4"), WITHDRAW] + plays("1:D2 2:D3 3:D4 0:DA 0:CA 1:C2 2:C3")
        self.check(before, (play(3, "H5"), [0, 2]))


class PlayRefusalTest(BoardCase):

    OVER = [deal(3, 0, ["C2", "C3", "C4", "C5"])] + plays("0:C2 1:C3 2:C4 3:C5")

    def test_over_by_its_last_trick(self):
        self.check_refused(self.OVER, play(3, "C5"), -4)
        self.check_refused(self.OVER, play(0, "SA"), -4)

    def test_over_by_a_claim(self):
        self.check_refused(START + [claim(0, 3), AGREE], play(1, "C2"), -4)

    def test_a_card_waits(self):
        for call in (play(1, "C2"), play(0, "CA"), play(3, "C4"), play(1, "SA")):
            self.check_refused(START + plays("0:CA"), call, -5)

    def test_a_claim_waits(self):
        for call in (play(1, "C2"), play(0, "CA"), play(1, "SA")):
            self.check_refused(START + [claim(1, 0)], call, -5)

    def test_card_of_another_hand_or_played_already(self):
        self.check_refused(START, play(1, "C3"), -6)
        self.check_refused(START, play(0, "C2"), -6)
        self.check_refused(START + plays("1:C2"), play(1, "C2"), -6)
        self.check_refused(START + plays("1:C2"), play(2, "C2"), -6)
        self.check_refused(START + plays("1:C2 2:C3 3:C4 0:CA"), play(0, "CA"), -6)

    def test_lead_against_a_duty(self):
        hands = ["C2 D2", "C3 D3", "C4 D4", "C5 D5"]
        before = [deal(0, NO_TRUMPS, hands), play(3, "C5"), WITHDRAW]
        self.check_refused(before + [duty(1, "C")], play(1, "D3"), -7)
        self.check_refused(before + [duty(2, "C")], play(1, "C3"), -7)


if __name__ == "__main__":
    unittest.main()
