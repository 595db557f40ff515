import unittest

from tests.helper import (
    ACCEPT, AGREE, FORGET, NO_TRUMPS, REVOKES, SCORE, BoardCase, claim, deal, mend, play, plays, raw_deal, run, script,
    undo,
)

SPADES = 3

# Seat 0 declares on all boards here, so that seat 1 is on lead; here it wins all tricks, whatever the others play.
THREE = deal(0, NO_TRUMPS, ["C4 S2 S3", "CA CK CQ", "C2 D2 D3", "C3 C5 H2"])
FOUR = deal(0, NO_TRUMPS, ["C4 S2 S3 S4", "CA CK CQ CJ", "C2 D2 D3 D4", "C3 C5 H2 H3"])
FIVE = deal(0, NO_TRUMPS, ["C4 S2 S3 S4 S5", "CA CK CQ CJ CT", "C2 D2 D3 D4 D5", "C3 H2 H3 H4 H5"])


class ScoreCase(BoardCase):

    def check_score(self, board, text, revokes, *numbers):
        """The text is played out on the board, with these revokes, and the score has these eight numbers."""
        found = run([board, script(text), REVOKES, SCORE])
        self.assertEqual(found[1], [0, len(text.split()), 0, 0, 0])
        self.assertEqual(found[2], [0] + [number for revoke in revokes for number in revoke])
        self.assertEqual(found[3], [0] + list(numbers))

    def check_claimed(self, board, text, revokes, claimed, *numbers):
        """The same, but behind the text a claim is agreed to."""
        found = run([board, script(text), claimed, AGREE, REVOKES, SCORE])
        self.assertEqual(found[1], [0, len(text.split()), 0, 0, 0])
        self.assertEqual(found[2:4], [[0, 0], [0, 0]])
        self.assertEqual(found[4], [0] + [number for revoke in revokes for number in revoke])
        self.assertEqual(found[5], [0] + list(numbers))


class PlayedOutTest(ScoreCase):

    def test_one_trick(self):
        self.check_score(deal(3, 0, ["C2", "C3", "C4", "C5"]), "C2 C3 C4 C5", [], 0, 1, 0, 0, 0, 0, 0, 1)
        self.check_score(deal(3, 0, ["C2", "C3", "C5", "C4"]), "C2 C3 C5 C4", [], 1, 0, 0, 0, 0, 0, 1, 0)

    def test_two_tricks_one_each(self):
        self.check_score(deal(0, NO_TRUMPS, ["CA D2", "C2 D3", "C3 D4", "C4 DA"]), "C2 C3 C4 CA D2 D3 D4 DA", [],
                         1, 1, 0, 0, 0, 0, 1, 1)

    def test_three_tricks(self):
        self.check_score(THREE, "CA C2 C3 C4 CK D2 C5 S2 CQ D3 H2 S3", [], 0, 3, 0, 0, 0, 0, 0, 3)

    def test_thirteen_tricks(self):
        # Each seat has one suit, so that nobody can follow seat 1.
        board = raw_deal(0, NO_TRUMPS, [k // 13 for k in range(52)])
        text = " ".join(f"{suit}{rank}" for rank in "23456789TJQKA" for suit in "DHSC")
        self.check_score(board, text, [], 0, 13, 0, 0, 0, 0, 0, 13)

    def test_both_seats_of_a_side_win_for_it(self):
        self.check_score(deal(0, NO_TRUMPS, ["C2 D2", "C3 DA", "C4 D4", "CA D3"]), "C3 C4 CA C2 D3 D2 DA D4", [],
                         0, 2, 0, 0, 0, 0, 0, 2)


class ClaimedTest(ScoreCase):

    def test_at_once(self):
        for size in (1, 2, 3, 13):
            board = raw_deal(1, 0, [k % 4 if k < 4 * size else 4 for k in range(52)])
            for n in range(size + 1):
                self.check_claimed(board, "", [], claim(0, n), 0, 0, n, size - n, 0, 0, n, size - n)
                self.check_claimed(board, "", [], claim(1, n), 0, 0, size - n, n, 0, 0, size - n, n)

    def test_behind_a_trick(self):
        text = "CA C2 C3 C4"
        self.check_claimed(FOUR, text, [], claim(0, 2), 0, 1, 2, 1, 0, 0, 2, 2)
        self.check_claimed(FOUR, text, [], claim(1, 3), 0, 1, 0, 3, 0, 0, 0, 4)
        self.check_claimed(FOUR, text, [], claim(1, 0), 0, 1, 3, 0, 0, 0, 3, 1)

    def test_a_forgotten_claim_awards_nothing(self):
        before = [THREE, claim(0, 3), FORGET, script("CA C2 C3 C4 CK D2 C5 S2 CQ D3 H2 S3")]
        self.check(before, (SCORE, [0, 0, 3, 0, 0, 0, 0, 0, 3]))

    def test_a_forgotten_claim_goes_before_an_agreed_one(self):
        before = [THREE, claim(0, 3), FORGET, claim(1, 1), AGREE]
        self.check(before, (SCORE, [0, 0, 0, 2, 1, 0, 0, 2, 1]))

    def test_undone(self):
        before = [THREE, claim(0, 3), AGREE]
        self.check(before, (SCORE, [0, 0, 0, 3, 0, 0, 0, 3, 0]), (undo(1), [0]), (SCORE, [-17]), (AGREE, [0, 0]),
                   (SCORE, [0, 0, 0, 3, 0, 0, 0, 3, 0]), (undo(2), [0]), (SCORE, [-17]), (claim(1, 1), [0, 0]),
                   (AGREE, [0, 0]), (SCORE, [0, 0, 0, 2, 1, 0, 0, 2, 1]), (undo(2), [0]),
                   (script("CA C2 C3 C4 CK D2 C5 S2 CQ D3 H2 S3"), [0, 12, 0, 0, 0]),
                   (SCORE, [0, 0, 3, 0, 0, 0, 0, 0, 3]))

    def test_a_revoke_takes_of_the_won_not_of_the_awarded(self):
        board = deal(0, NO_TRUMPS, ["C4 S2 S3 S4", "C6 CK CQ CJ", "CA D2 D3 D4", "C3 C5 H2 H3"])
        self.check_claimed(board, "C6 CA H2 C4", [(3, 1, 0)], claim(1, 3), 1, 0, 0, 3, 0, 0, 1, 3)

    def test_a_revoke_moves_a_won_trick(self):
        self.check_claimed(FOUR, "CA C2 H2 C4", [(3, 1, 0)], claim(0, 2), 0, 1, 2, 1, 0, 1, 3, 1)

    def test_the_last_two_are_so_by_the_size_not_by_what_is_finished(self):
        first = "CA C2 H2 C4"
        self.check_claimed(THREE, first, [(3, 1, 0)], claim(0, 0), 0, 1, 0, 2, 0, 1, 1, 2)
        second = "CA C2 C3 C4 CK D2 H2 S2"
        self.check_claimed(FOUR, second, [(3, 2, 0)], claim(0, 0), 0, 2, 0, 2, 0, 1, 1, 3)
        self.check_claimed(THREE, second, [(3, 2, 0)], claim(0, 0), 0, 2, 0, 1, 0, 0, 0, 3)


class CountingTest(ScoreCase):

    def test_in_the_trick_before_the_last_two(self):
        self.check_score(THREE, "CA C2 H2 C4 CK D2 C3 S2 CQ D3 C5 S3", [(3, 1, 0)], 0, 3, 0, 0, 0, 1, 1, 2)

    def test_in_one_of_the_last_two(self):
        self.check_score(THREE, "CA C2 C3 C4 CK D2 H2 S2 CQ D3 C5 S3", [(3, 2, 0)], 0, 3, 0, 0, 0, 0, 0, 3)
        two = deal(0, NO_TRUMPS, ["C4 S2", "CA CK", "C2 D2", "C3 H2"])
        self.check_score(two, "CA C2 H2 C4 CK D2 C3 S2", [(3, 1, 0)], 0, 2, 0, 0, 0, 0, 0, 2)

    def test_on_a_board_of_thirteen(self):
        hands = ["S2 S3 S4 S5 S6 S7 S8 S9 ST SJ SQ SK SA", "D5 D6 D7 D8 D9 DT DJ DQ DK DA CA CK CQ",
                 "D2 D3 D4 HA HK C4 C5 C6 C7 C8 C9 CT CJ", "C2 C3 H2 H3 H4 H5 H6 H7 H8 H9 HT HJ HQ"]
        ten = ("D5 D2 H2 S2 D6 D3 H3 S3 D7 D4 H4 S4 D8 HA H5 S5 D9 HK H6 S6 DT C4 H7 S7 DJ C5 H8 S8 DQ C6 H9 S9 "
               "DK C7 HT ST DA C8 HJ SJ ")
        board = deal(0, NO_TRUMPS, hands)
        self.check_score(board, ten + "CA C9 HQ SQ CK CT C2 SK CQ CJ C3 SA", [(3, 11, 0)], 0, 13, 0, 0, 0, 1, 1, 12)
        self.check_score(board, ten + "CA C9 C2 SQ CK CT HQ SK CQ CJ C3 SA", [(3, 12, 0)], 0, 13, 0, 0, 0, 0, 0, 13)

    def test_twice_by_a_seat_in_a_suit(self):
        self.check_score(FOUR, "CA C2 H2 C4 CK D2 H3 S2 CQ D3 C3 S3 CJ D4 C5 S4", [(3, 1, 0), (3, 2, 0)],
                         0, 4, 0, 0, 0, 1, 1, 3)

    def test_three_times_the_earlier_one_counting_or_not(self):
        # The third is behind one that counts and one that doesn't.
        self.check_score(FIVE, "CA C2 H2 C4 CK D2 H3 S2 CQ D3 H4 S3 CJ D4 C3 S4 CT D5 H5 S5",
                         [(3, 1, 0), (3, 2, 0), (3, 3, 0)], 0, 5, 0, 0, 0, 1, 1, 4)

    def test_the_second_counts_if_the_first_was_put_right(self):
        before = [FOUR, script("CA C2 H2"), mend("C3"), script("C4 CK D2 H2 S2 CQ D3 C5 S3 CJ D4 H3 S4")]
        self.check(before, (REVOKES, [0, 3, 2, 0]), (SCORE, [0, 0, 4, 0, 0, 0, 1, 1, 3]))

    def test_the_second_counts_if_the_first_was_undone(self):
        before = [FOUR, script("CA C2 H2"), undo(1), script("C3 C4 CK D2 H2 S2 CQ D3 C5 S3 CJ D4 H3 S4")]
        self.check(before, (REVOKES, [0, 3, 2, 0]), (SCORE, [0, 0, 4, 0, 0, 0, 1, 1, 3]))

    def test_a_revoke_put_right_costs_nothing(self):
        before = [FOUR, script("CA C2 H2"), mend("C3"), script("C4 CK D2 C5 S2 CQ D3 H2 S3 CJ D4 H3 S4")]
        self.check(before, (REVOKES, [0]), (SCORE, [0, 0, 4, 0, 0, 0, 0, 0, 4]))

    def test_by_a_seat_in_two_suits(self):
        board = deal(0, NO_TRUMPS, ["C4 D4 S3 S4", "CA DA DK DQ", "C2 D2 D3 S2", "C3 D5 H2 H3"])
        self.check_score(board, "CA C2 H2 C4 DA D2 H3 D4 DK D3 D5 S3 DQ S2 C3 S4", [(3, 1, 0), (3, 2, 1)],
                         0, 4, 0, 0, 0, 2, 2, 2)

    def test_by_two_seats_in_a_suit(self):
        board = deal(0, NO_TRUMPS, ["H4 C3 C4 S2", "H2 CA D3 DA", "HA C2 C5 S3", "H3 C6 D2 DK"])
        self.check_score(board, "H2 HA H3 H4 C2 D2 C3 D3 C4 CA C5 C6 DA S3 DK S2", [(3, 2, 0), (1, 2, 0)],
                         2, 2, 0, 0, 0, 2, 4, 0)


class PriceTest(ScoreCase):

    def test_two_if_its_seat_won_the_trick(self):
        board = deal(0, SPADES, ["C7 C8 H3 H4", "CA CK CQ D2", "C2 C5 C6 D3", "C3 C4 S2 H2"])
        self.check_score(board, "CA C2 S2 C7 C3 C8 CK C5 CQ C6 C4 H3 D2 D3 H2 H4", [(3, 1, 0)], 1, 3, 0, 0, 0, 2, 3, 1)

    def test_one_if_its_partner_won_the_trick(self):
        self.check_score(FOUR, "CA C2 H2 C4 CK D2 C3 S2 CQ D3 C5 S3 CJ D4 H3 S4", [(3, 1, 0)], 0, 4, 0, 0, 0, 1, 1, 3)

    def test_one_if_the_other_side_won_the_trick(self):
        # The dummy wins the trick of the revoke, then seat 1 all others.
        board = deal(0, NO_TRUMPS, ["C4 S2 S3 S4", "CK HA HK HQ", "CA H4 D3 D4", "C3 C5 H2 H3"])
        self.check_score(board, "CK CA H2 C4 H4 H3 S2 HA HK D3 C3 S3 HQ D4 C5 S4", [(3, 1, 0)], 1, 3, 0, 0, 0, 1, 2, 2)

    def test_no_more_than_the_side_won_from_then_on(self):
        # The trick that its seat won is the only one of its side.
        board = deal(0, SPADES, ["C7 CK HA", "CA D2 D3", "C2 C5 D4", "S2 C3 H2"])
        self.check_score(board, "CA C2 S2 C7 C3 CK D2 C5 HA D3 D4 H2", [(3, 1, 0)], 2, 1, 0, 0, 0, 1, 3, 0)

    def test_what_was_won_before_does_not_count(self):
        board = deal(0, NO_TRUMPS, ["C3 D4 H3 H4", "CA D2 H5 H6", "C2 DA DK SA", "C4 D3 H2 H7"])
        self.check_score(board, "CA C2 C4 C3 D2 DA H2 D4 DK D3 H3 H5 SA H7 H4 H6", [(3, 2, 1)],
                         3, 1, 0, 0, 0, 0, 3, 1)

    def test_a_side_that_won_none(self):
        self.check_score(THREE, "CA C2 C3 S2 CK D2 C5 C4 CQ D3 H2 S3", [(0, 1, 0)], 0, 3, 0, 0, 0, 0, 0, 3)


class SumTest(ScoreCase):

    def test_no_more_than_won_from_the_first_one_on(self):
        # Each of the two could be paid from the one trick that the side won behind them.
        board = deal(0, SPADES, ["H4 C3 C4 S2", "H2 CA D3 DA", "HA C2 C5 S3", "H3 C6 D2 DK"])
        self.check_score(board, "H2 HA H3 H4 C2 D2 C3 D3 C4 CA C5 C6 DA S3 DK S2", [(3, 2, 0), (1, 2, 0)],
                         3, 1, 0, 0, 0, 1, 4, 0)

    def test_the_first_one_not_the_last(self):
        # 2 for the first, which won its trick, 1 for the second; two were won from the first on, one from the second.
        board = deal(0, SPADES, ["C4 DA DK H3 S3", "CA D3 D5 H2 HA", "C2 D4 D6 H4 H6", "C3 S2 D2 H5 H7"])
        self.check_score(board, "CA C2 S2 C4 D2 DA D3 D4 DK H2 D6 C3 H3 HA H4 H5 D5 H6 H7 S3", [(3, 1, 0), (1, 3, 1)],
                         3, 2, 0, 0, 0, 2, 5, 0)

    def test_what_was_won_before_the_first_does_not_count(self):
        # Seat 1 wins a trick, then both defenders revoke, and win one trick more.
        board = deal(0, SPADES, ["H4 C3 C4 S2 DQ", "H2 CA D3 DA DK", "HA C2 C5 S3 D5", "H3 C6 D2 DJ D4"])
        text = "DK D5 D4 DQ H2 HA H3 H4 C2 D2 C3 D3 C4 CA C5 C6 DA S3 DJ S2"
        self.check_score(board, text, [(3, 3, 0), (1, 3, 0)], 3, 2, 0, 0, 0, 1, 4, 1)

    def test_both_sides(self):
        # Seat 3 revokes, then seat 0, which wins the trick by a trump.
        board = deal(0, SPADES, ["C4 S2 S3 SA", "CA CK CQ S5", "C2 D2 D3 D4", "C3 H2 H3 H4"])
        self.check_score(board, "CA C2 H2 S2 C4 CK D2 C3 CQ D3 H3 S3 SA S5 D4 H4", [(3, 1, 0), (0, 1, 0)],
                         3, 1, 0, 0, 2, 1, 2, 2)

    def test_both_sides_with_a_declarer_of_the_other(self):
        # The same board, each seat moved on by one.
        board = deal(1, SPADES, ["C3 H2 H3 H4", "C4 S2 S3 SA", "CA CK CQ S5", "C2 D2 D3 D4"])
        self.check_score(board, "CA C2 H2 S2 C4 CK D2 C3 CQ D3 H3 S3 SA S5 D4 H4", [(0, 1, 0), (1, 1, 0)],
                         1, 3, 0, 0, 1, 2, 2, 2)

    def test_both_sides_with_a_claim(self):
        board = deal(0, SPADES, ["C4 S2 S3 SA", "CA CK CQ S5", "C2 D2 D3 D4", "C3 H2 H3 H4"])
        self.check_claimed(board, "CA C2 H2 S2 C4 CK D2 C3", [(3, 1, 0), (0, 1, 0)], claim(1, 2),
                           1, 1, 0, 2, 1, 1, 1, 3)


class ScoreRefusalTest(BoardCase):

    def test_not_over(self):
        done = script("CA C2 H2 C4 CK D2 C3 S2 CQ D3 C5")
        for more in ([], [script("CA")], [script("CA C2 C3 C4")], [play(3, "C3")], [play(3, "C3"), ACCEPT],
                     [claim(0, 1)], [claim(0, 1), FORGET], [done]):
            self.check_refused([THREE] + more, SCORE, -17)

    def test_over_no_more_when_undone(self):
        done = [THREE, script("CA C2 H2 C4 CK D2 C3 S2 CQ D3 C5 S3")]
        self.check(done, (SCORE, [0, 0, 3, 0, 0, 0, 1, 1, 2]), (undo(1), [0]), (SCORE, [-17]), (play(0, "S3"), [0, 0]),
                   (SCORE, [0, 0, 3, 0, 0, 0, 1, 1, 2]))

    def test_a_board_dealt_anew(self):
        done = [THREE, script("CA C2 H2 C4 CK D2 C3 S2 CQ D3 C5 S3"), THREE]
        self.check(done, (SCORE, [-17]), (claim(0, 1), [0, 0]), (AGREE, [0, 0]),
                   (SCORE, [0, 0, 0, 1, 2, 0, 0, 1, 2]))
        claimed = [FOUR, claim(0, 4), AGREE, deal(3, 0, ["C2", "C3", "C4", "C5"])] + plays("0:C2 1:C3 2:C4 3:C5")
        self.check(claimed, (SCORE, [0, 0, 1, 0, 0, 0, 0, 0, 1]))


if __name__ == "__main__":
    unittest.main()
