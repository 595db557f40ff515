import unittest

from tests.helper import (
    ACCEPT, AGREE, FACED, LEGAL, NO_TRUMPS, QUESTIONS, REVOKES, SCORE, TABLE, TEXT, WITHDRAW, BoardCase, claim, deal,
    duty, mend, play, plays, raw_deal, raw_script, run, script, table, undo, whose,
)
from trickboard.board import answers

LINE = [TABLE, deal(0, NO_TRUMPS, ["CA DK H2", "C2 D2 S2", "C3 D3 S3", "C4 D4 H4"]), play(3, "D4"), WITHDRAW,
        duty(1, "D"), play(1, "C2"), play(1, "D2"), play(2, "D3"), play(3, "C4"), play(3, "D4"), play(0, "H2"),
        mend("DK"), TABLE, undo(3), TABLE, raw_deal(0, 0, []), raw_deal(0, 0, [4] * 60), undo(0), play(2, "S3"), ACCEPT,
        WITHDRAW, claim(1, 1), TABLE] + QUESTIONS + [
            script("D3 C4"), raw_script([256]), script(""), REVOKES, mend("D4"), script("DK H2 S2  S3"), whose("C3"),
            whose("SA"), undo(2), claim(1, 1), AGREE] + QUESTIONS
NUMBERS = [number for call in LINE for number in call]


class AnswersTest(unittest.TestCase):

    def test_each_answer_has_its_length_before_it(self):
        calls = TABLE + deal(3, 0, ["C2", "C3", "C4", "C5"]) + [1, 0, 0] + TABLE + [7, 1] + [7, 1]
        self.assertEqual(answers(calls), [1, -3, 2, 0, 1, 2, 0, 0, 10, 0, 1, 0, 1, 0, 0, 0, 0, 0, 0, 1, 0, 1, -15])

    def test_lists_and_texts_have_no_count_of_their_own(self):
        calls = deal(0, 4, ["CA DK", "C2 D2", "C3 D3", "C4 D4"]) + play(3, "D4") + WITHDRAW + [9, 0] + LEGAL
        calls += [16, 8] + list(b"C2 C3 D4") + TEXT + REVOKES + FACED + mend("C4") + FACED + [16, 2] + list(b"CA")
        calls += [11, 1] + SCORE + [17, 12, 17, 51]
        self.assertEqual(answers(calls), [
            2, 0, 2, 2, 0, 1, 2, 0, 3, 3, 0, 12, 24, 3, 0, 0, 13, 5, 0, 3, 0, 0, 0,
            9, 0, 67, 50, 32, 67, 51, 32, 68, 52, 4, 0, 3, 1, 0, 1, 0, 2, 0, 0, 3, 0, 3, 15, 5, 0, 1, 0, 0, 0,
            10, 0, 0, 1, 0, 2, 1, 3, 2, 0, 12, 1, -17, 2, 0, 5, 2, 0, 6])

    def test_one_call_alone(self):
        self.assertEqual(answers([8]), [1, -3])

    def test_a_refused_row_is_passed_over(self):
        for count in (0, 1, 51, 53, 60):
            self.assertEqual(answers([0, 0, 0, count] + [8] * count + [8]), [1, -1, 1, -3])
        for count in (0, 1, 2, 399, 400):
            self.assertEqual(answers([16, count] + [8] * count + [8]), [1, -3, 1, -3])
            self.assertEqual(answers([16, count + 1] + [8] * count + [-1, 8]), [1, -1, 1, -3])

    def test_answers_are_a_list_of_whole_numbers(self):
        given = answers(NUMBERS)
        self.assertIs(type(given), list)
        self.assertTrue(all(type(number) is int for number in given))

    def test_what_is_handed_in_stays_as_it_was(self):
        handed_in = list(NUMBERS)
        answers(handed_in)
        self.assertEqual(handed_in, NUMBERS)

    def test_what_is_given_back_is_another_list_each_time(self):
        first = answers(NUMBERS)
        kept = list(first)
        first.append(99)
        self.assertEqual(answers(NUMBERS), kept)

    def test_nothing_is_kept_from_one_time_to_the_next(self):
        first = answers(NUMBERS)
        self.assertEqual(answers(NUMBERS), first)
        self.assertEqual(answers([8]), [1, -3])
        self.assertEqual(answers([7, 0]), [1, -3])
        self.assertEqual(answers(NUMBERS), first)

    def test_the_longest_line(self):
        row = raw_deal(0, 0, [4] * 36 + [0, 1, 2, 3] * 4)
        self.assertEqual(answers(row + [8] * 399), [2, 0, 4] + [8, 0, 1, 0, 4, 0, 0, 0, 0] * 399)

    def test_long_lines_of_scripts(self):
        board = raw_deal(0, NO_TRUMPS, [k // 13 for k in range(52)])
        text = " ".join(f"{suit}{rank}" for rank in "23456789TJQKA" for suit in "DHSC")
        found = run([board] + [script(text), TEXT, undo(52)] * 90 + [TABLE])
        self.assertEqual(found[1:-1], [[0, 52, 0, 0, 0], [0] + list(text.encode()), [0]] * 90)
        self.assertEqual(found[-1], table(1, 0, 13))
        found = run([board, script(text)] + [TEXT] * 398)
        self.assertEqual(found[2:], [[0] + list(text.encode())] * 398)

    def test_more_things_done_than_one_undo_takes_back(self):
        board = raw_deal(0, NO_TRUMPS, [k // 13 for k in range(52)])
        text = " ".join(f"{suit}{rank}" for rank in "23456789TJQK" for suit in "DHSC")
        waits = [play(3, "SA"), WITHDRAW] * 177
        found = run([board, script(text)] + waits + [undo(401), undo(400), TEXT, undo(3), undo(2)])
        self.assertEqual(found[1:4], [[0, 48, 0, 0, 0], [0, 1], [0, 3]])
        self.assertEqual(found[-5:], [[-1], [0], [0] + list(b"D2 H2"), [-15], [0]])


class TableTest(BoardCase):

    HANDS = ["CA DK H2", "C2 D2 S2", "C3 D3 S3", "C4 D4 H4"]
    START = [deal(0, NO_TRUMPS, HANDS)]

    def test_the_numbers_in_their_order(self):
        self.check(self.START + plays("1:C2 2:C3 3:C4 0:CA 0:DK 1:D2"),
                   (TABLE, [0, 2, 1, 2, 0, 0, 0, 0, 0, 24, 1, 13]))

    def test_cards_stand_in_the_order_of_play(self):
        self.check(self.START + [play(3, "H4"), ACCEPT] + plays("0:H2 1:C2"),
                   (TABLE, table(2, 0, 3, on_table="3:H4 0:H2 1:C2")))

    def test_over_with_tricks_that_are_not_finished(self):
        self.check(self.START + plays("1:C2 2:C3 3:C4 0:CA") + [claim(0, 0), AGREE], (TABLE, table(0, 1, 2, over=1)))

    def test_asking_changes_nothing(self):
        self.check(self.START + [TABLE, TABLE], (TABLE, table(1, 0, 3)), (TABLE, table(1, 0, 3)), (undo(1), [-15]))


if __name__ == "__main__":
    unittest.main()
