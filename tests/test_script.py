import unittest

from tests.helper import (
    ACCEPT, AGREE, FACED, FAR, LEGAL, NO_TRUMPS, QUESTIONS, REVOKES, SCORE, TABLE, TEXT, WITHDRAW, BoardCase, bytes_of,
    cards, claim, deal, duty, hand, mend, pairs, play, plays, raw_deal, raw_script, run, script, table, trick,
    undo, won_trick,
)

# Seat 0 declares, seat 2 is the dummy, seat 1 is on lead.
START = [deal(0, NO_TRUMPS, ["CA DK H2", "C2 D2 S2", "C3 D3 S3", "C4 D4 H4"])]
SUIT_EACH = [raw_deal(0, NO_TRUMPS, [k // 13 for k in range(52)])]
ALL_CARDS = " ".join(f"{suit}{rank}" for rank in "23456789TJQKA" for suit in "DHSC")
CLUBS_LED = [raw_deal(0, NO_TRUMPS, [(1 + k // 13) % 4 for k in range(52)])]
ONE_EACH = [deal(3, 0, ["C2", "C3", "C4", "C5"])]
OVER = ONE_EACH + plays("0:C2 1:C3 2:C4 3:C5")

NO_CARD = 1
REFUSED = 2


class PlayedTest(BoardCase):

    def test_the_empty_text(self):
        for before in (START, START + plays("1:C2"), START + plays("3:C4"), START + [claim(0, 1)], OVER,
                       START + [claim(0, 1), AGREE]):
            self.check_changes_nothing(before, script(""), [0, 0, 0, 0, 0])

    def test_one_card(self):
        self.check(START, ([16, 2, 67, 50], [0, 1, 0, 0, 0]), (TABLE, table(2, 0, 3, on_table="1:C2")))

    def test_each_card_is_played_by_the_seat_on_turn(self):
        self.check(START, (script("C2 C3 C4 CA DK D2"), [0, 6, 0, 0, 0]),
                   (TABLE, table(2, 1, 2, on_table="0:DK 1:D2")), (trick(1), won_trick(0, "1:C2 2:C3 3:C4 0:CA")))

    def test_a_whole_board(self):
        self.check(START, (script("C2 C3 C4 CA DK D2 D3 D4 H2 S2 S3 H4"), [0, 12, 0, 0, 0]),
                   (TABLE, table(3, 3, 0, over=1)), (SCORE, [0, 2, 1, 0, 0, 0, 0, 2, 1]))
        self.check(ONE_EACH, (script("C2 C3 C4 C5"), [0, 4, 0, 0, 0]), (TABLE, table(3, 1, 0, over=1)))

    def test_each_cards_text_on_a_board_of_thirteen(self):
        self.check(SUIT_EACH, (script(ALL_CARDS), [0, 52, 0, 0, 0]), (TABLE, table(1, 13, 0, over=1)),
                   (TEXT, bytes_of(ALL_CARDS)))

    def test_one_behind_another_and_behind_plays(self):
        self.check(START + plays("1:C2"), (script("C3 C4"), [0, 2, 0, 0, 0]), (play(0, "CA"), [0, 0]),
                   (script("DK"), [0, 1, 0, 0, 0]), (TEXT, bytes_of("C2 C3 C4 CA DK")))

    def test_as_if_played_by_plays(self):
        text = "C2 C3 C4 CA DK D2 D3 D4 H2"
        seats = (1, 2, 3, 0, 0, 1, 2, 3, 0)
        for count in range(1, 10):
            by_plays = START + [play(seat, word) for seat, word in zip(seats, text.split()[:count])]
            by_script = START + [script(" ".join(text.split()[:count]))]
            asked = QUESTIONS + [undo(count + 1), undo(count)] + QUESTIONS
            self.assertEqual(run(by_script + asked)[-len(asked):], run(by_plays + asked)[-len(asked):])

    def test_ends_a_duty_and_plays_what_it_asks_for(self):
        before = START + plays("3:D4") + [WITHDRAW, duty(1, "D")]
        self.check(before, (script("D2 D3"), [0, 2, 0, 0, 0]), (TABLE, table(3, 0, 3, on_table="1:D2 2:D3")))

    def test_behind_an_accepted_card(self):
        self.check(START + plays("3:C4") + [ACCEPT], (script("CA C2"), [0, 2, 0, 0, 0]),
                   (TABLE, table(2, 0, 3, on_table="3:C4 0:CA 1:C2")))


class NoCardTest(BoardCase):

    def check_ends(self, text, played, place):
        """On a new board the text ends at a word that is no card's text; the cards before it stay played."""
        before = " ".join(text.split(" ")[:played])
        self.check(START, (script(text), [0, played, NO_CARD, 0, place]), (TEXT, bytes_of(before)),
                   (undo(played + 1), [-15]), (undo(played), [0]), (TEXT, [0]))

    def test_a_blank_at_the_beginning(self):
        self.check_ends(" C2 C3", 0, 0)
        self.check_ends("  C2 C3", 0, 0)

    def test_a_blank_at_the_end(self):
        self.check_ends("C2 ", 1, 3)
        self.check_ends("C2 C3 C4 ", 3, 9)
        self.check_ends("C2  ", 1, 3)

    def test_two_blanks_in_a_row(self):
        self.check_ends("C2  C3", 1, 3)
        self.check_ends("C2 C3  C4", 2, 6)

    def test_blanks_alone(self):
        for count in (1, 2, 400):
            self.check_ends(" " * count, 0, 0)

    def test_too_short(self):
        self.check_ends("C", 0, 0)
        self.check_ends("2", 0, 0)
        self.check_ends("C2 C C4", 1, 3)
        self.check_ends("C2 3", 1, 3)

    def test_too_long(self):
        self.check_ends("C22", 0, 0)
        self.check_ends("C2 C3C4", 1, 3)
        self.check_ends("C2 C33", 1, 3)
        self.check_ends("C10", 0, 0)

    def test_small_letters(self):
        self.check_ends("c2", 0, 0)
        self.check_ends("C2 C3 C4 ca", 3, 9)
        self.check_ends("C2 C3 C4 Ca", 3, 9)
        self.check_ends("C2 C3 C4 cA", 3, 9)

    def test_no_letter_or_sign_of_a_card(self):
        for word in ("E2", "B2", "T2", "22", "C1", "C0", "CB", "CC", "C:", "NT", "2C", "??", "C.", "A2"):
            self.check_ends(word, 0, 0)
            self.check_ends(f"C2 C3 {word} C4", 2, 6)

    def test_every_pair_of_signs(self):
        # Only seat 1's clubs can be played: any other card's text is refused as a card that it doesn't hold.
        for first in range(33, 127):
            for second in range(33, 127):
                expected = [0, 0, NO_CARD, 0, 0]
                if first in b"CDHS" and second in b"23456789TJQKA":
                    expected = [0, 1, 0, 0, 0] if first in b"C" else [0, 0, REFUSED, -6, 0]
                self.assertEqual(run(CLUBS_LED + [raw_script([first, second])])[-1], expected, (first, second))

    def test_bytes_that_are_no_letters(self):
        for byte in (0, 9, 10, 13, 31, 33, 127, 160, 255):
            self.check(START, (raw_script([67, 50, byte, 67, 51]), [0, 0, NO_CARD, 0, 0]), (TEXT, [0]))
            self.check(START, (raw_script([67, 50, 32, byte, 51]), [0, 1, NO_CARD, 0, 3]), (TEXT, bytes_of("C2")))
            self.check(START, (raw_script([67, 50, 32, 67, byte]), [0, 1, NO_CARD, 0, 3]), (TEXT, bytes_of("C2")))

    def test_what_is_behind_that_word_is_not_played(self):
        self.check(START, (script("C2 XX C3 C4"), [0, 1, NO_CARD, 0, 3]), (TABLE, table(2, 0, 3, on_table="1:C2")))

    def test_no_card_though_no_play_could_be_done(self):
        for before in (OVER, START + plays("3:C4"), START + [claim(0, 1)]):
            self.check_changes_nothing(before, script("XX"), [0, 0, NO_CARD, 0, 0])


class RefusedTest(BoardCase):

    def test_over(self):
        self.check_changes_nothing(OVER, script("C2"), [0, 0, REFUSED, -4, 0])
        self.check_changes_nothing(START + [claim(0, 1), AGREE], script("C2"), [0, 0, REFUSED, -4, 0])

    def test_over_within_the_text(self):
        self.check(ONE_EACH, (script("C2 C3 C4 C5 C6 C7"), [0, 4, REFUSED, -4, 12]), (TABLE, table(3, 1, 0, over=1)))
        self.check(ONE_EACH, (script("C2 C3 C4 C5 "), [0, 4, NO_CARD, 0, 12]))
        self.check(SUIT_EACH, (script(ALL_CARDS + " C2"), [0, 52, REFUSED, -4, 156]))

    def test_something_waits(self):
        self.check_changes_nothing(START + plays("3:C4"), script("C2 C3"), [0, 0, REFUSED, -5, 0])
        self.check_changes_nothing(START + plays("1:C2 3:C4"), script("C3"), [0, 0, REFUSED, -5, 0])
        self.check_changes_nothing(START + [claim(0, 1)], script("C2 C3"), [0, 0, REFUSED, -5, 0])

    def test_not_in_the_hand_of_the_seat_on_turn(self):
        for word in ("C3", "CA", "SA", "D4"):
            self.check_changes_nothing(START, script(word), [0, 0, REFUSED, -6, 0])
        self.check(START, (script("C2 C4 C3"), [0, 1, REFUSED, -6, 3]), (TABLE, table(2, 0, 3, on_table="1:C2")))
        self.check(START, (script("C2 C2"), [0, 1, REFUSED, -6, 3]), (TEXT, bytes_of("C2")))
        self.check(START, (script("C2 C3 C4 CA D2"), [0, 4, REFUSED, -6, 12]), (TABLE, table(0, 1, 2)))

    def test_a_duty_is_not_kept(self):
        before = START + plays("3:D4") + [WITHDRAW]
        self.check_changes_nothing(before + [duty(1, "D")], script("C2 C3"), [0, 0, REFUSED, -7, 0])
        self.check_changes_nothing(before + [duty(2, "D")], script("D2 D3"), [0, 0, REFUSED, -7, 0])

    def test_another_card_presses(self):
        hands = ["CA DK H2", "C2 D2 S2", "C3 D3 S3", "C4 C5 H4"]
        before = [deal(0, NO_TRUMPS, hands)] + plays("3:C5") + [WITHDRAW]
        for word in ("C4", "H4"):
            self.check(before, (script(f"C2 C3 {word} CA"), [0, 2, REFUSED, -7, 6]), (TEXT, bytes_of("C2 C3")),
                       (hand(3), cards("C4 C5 H4")), (FACED, pairs("3:C5")), (undo(5), [-15]), (undo(4), [0]))
        self.check(before, (script("C2 C3 C5 CA"), [0, 4, 0, 0, 0]), (FACED, [0]))

    def test_the_dummy_does_not_revoke(self):
        self.check(START, (script("C2 D3 C4"), [0, 1, REFUSED, -8, 3]), (TABLE, table(2, 0, 3, on_table="1:C2")),
                   (REVOKES, [0]))
        self.check_changes_nothing(START + plays("1:C2"), script("S3"), [0, 0, REFUSED, -8, 0])

    def test_the_place_counts_bytes_not_words(self):
        self.check(START, (script("C2 C3 C4 CA DK D2 D3 C2"), [0, 7, REFUSED, -6, 21]))


class RevokeTest(BoardCase):

    def test_a_revoke_is_played_and_counted(self):
        self.check(START, (script("C2 C3 D4 CA"), [0, 4, 0, 0, 0]), (REVOKES, [0, 3, 1, 0]), (TABLE, table(0, 1, 2)))

    def test_the_last_card_is_fresh(self):
        self.check(START, (script("C2 C3 D4"), [0, 3, 0, 0, 0]), (mend("C4"), [0, 0]), (REVOKES, [0]),
                   (TEXT, bytes_of("C2 C3 C4")), (FACED, pairs("3:D4")))
        self.check(START, (script("C2 C3 C4 DK"), [0, 4, 0, 0, 0]), (REVOKES, [0, 0, 1, 0]), (mend("CA"), [0, 0]),
                   (REVOKES, [0]), (TABLE, table(0, 1, 2)))

    def test_fresh_too_if_the_text_ends_behind_it(self):
        self.check(START, (script("C2 C3 D4 XX"), [0, 3, NO_CARD, 0, 9]), (mend("C4"), [0, 0]))
        self.check(START, (script("C2 C3 D4 C2"), [0, 3, REFUSED, -6, 9]), (mend("C4"), [0, 0]))

    def test_the_next_card_ends_it(self):
        self.check_refused(START + [script("C2 C3 D4 CA")], mend("C4"), -11)
        self.check_refused(START + plays("1:C2 2:C3 3:D4") + [script("CA")], mend("C4"), -11)

    def test_a_text_of_which_nothing_is_played_does_not(self):
        for text in ("", " CA", "XX", "C4", "C"):
            self.check(START + plays("1:C2 2:C3 3:D4") + [script(text)], (mend("C4"), [0, 0]), (REVOKES, [0]))

    def test_undone(self):
        before = START + [script("C2 C3 D4")]
        self.check(before, (undo(1), [0]), (REVOKES, [0]), (mend("C4"), [-11]), (script("C4 CA"), [0, 2, 0, 0, 0]))
        self.check(START + [script("C2 C3 D4 CA"), undo(1)], (REVOKES, [0, 3, 1, 0]), (mend("C4"), [0, 0]))

    def test_two_revokes(self):
        self.check(START, (script("C2 C3 D4 DK"), [0, 4, 0, 0, 0]), (REVOKES, [0, 3, 1, 0, 0, 1, 0]),
                   (mend("CA"), [0, 0]), (REVOKES, [0, 3, 1, 0]))


class UndoTest(BoardCase):

    def test_none_was_played(self):
        for text in ("", "XX", "C3"):
            self.check(START + [script(text)], (undo(1), [-15]), (undo(0), [0]), (TEXT, [0]))

    def test_some_all_and_one_more(self):
        words = "C2 C3 C4 CA DK D2".split()
        before = START + [script(" ".join(words))]
        for k in range(6):
            self.check(before, (undo(k), [0]), (TEXT, bytes_of(" ".join(words[:6 - k]))), (undo(7 - k), [-15]),
                       (script(" ".join(words[6 - k:])), [0, k, 0, 0, 0]), (TEXT, bytes_of(" ".join(words))))
        self.check(before, (undo(7), [-15]), (undo(6), [0]), (TEXT, [0]), (TABLE, table(1, 0, 3)), (undo(1), [-15]))

    def test_only_what_was_played_of_a_text_that_ended(self):
        for text in ("C2 C3 XX C4", "C2 C3 C2 C4"):
            self.check(START + [script(text)], (undo(3), [-15]), (undo(1), [0]), (TEXT, bytes_of("C2")),
                       (undo(1), [0]), (TEXT, [0]))

    def test_across_scripts_and_plays(self):
        before = START + plays("1:C2") + [script("C3 C4")] + plays("0:CA") + [script("DK D2")]
        self.check(before, (undo(7), [-15]), (undo(4), [0]), (TEXT, bytes_of("C2 C3")), (undo(2), [0]), (TEXT, [0]))

    def test_all_of_thirteen_tricks(self):
        before = SUIT_EACH + [script(ALL_CARDS)]
        self.check(before, (undo(53), [-15]), (undo(52), [0]), (TEXT, [0]), (undo(1), [-15]),
                   (script(ALL_CARDS), [0, 52, 0, 0, 0]))

    def test_face_up_again(self):
        before = START + plays("3:C4") + [WITHDRAW, script("C2 C3 C4 CA")]
        self.check(before, (FACED, [0]), (undo(2), [0]), (FACED, pairs("3:C4")), (LEGAL, cards("C4")))

    def test_not_beyond_a_deal(self):
        self.check(START + [script("C2 C3")] + START, (undo(1), [-15]), (TEXT, [0]))


class BytesTest(BoardCase):

    def test_outside_their_range(self):
        text = list(b"C2 C3")
        for place in range(5):
            for value in (-1, 256, FAR, -FAR):
                other = list(text)
                other[place] = value
                self.check_refused(START, raw_script(other), -1)

    def test_none_is_played_before_one_outside(self):
        self.check(START, (raw_script(list(b"C2 C3 ") + [256]), [-1]), (TEXT, [0]), (undo(1), [-15]))

    def test_the_ends_of_the_range(self):
        self.check(START, (raw_script([0]), [0, 0, NO_CARD, 0, 0]), (raw_script([255]), [0, 0, NO_CARD, 0, 0]))

    def test_four_hundred(self):
        long = (ALL_CARDS + " " + ALL_CARDS + " " + ALL_CARDS)[:400]
        self.check(SUIT_EACH, (script(long), [0, 52, REFUSED, -4, 156]), (TEXT, bytes_of(ALL_CARDS)))
        self.check(START, (script("C" * 400), [0, 0, NO_CARD, 0, 0]), (TEXT, [0]))
        self.check(START, (script("C2 " + "C" * 397), [0, 1, NO_CARD, 0, 3]), (TEXT, bytes_of("C2")))
        self.check_refused(START, raw_script([67] * 399 + [256]), -1)

    def test_before_the_first_deal(self):
        self.check([], (script(""), [-3]), (script("C2"), [-3]), (raw_script([256]), [-1]), (raw_script([-1]), [-1]),
                   (script("x" * 400), [-3]), (TABLE, [-3]), (START[0], [0, 3]), (TEXT, [0]))


if __name__ == "__main__":
    unittest.main()
