import unittest

from tests.helper import (
    ACCEPT, AGREE, FORGET, NO_TRUMPS, QUESTIONS, TABLE, WITHDRAW, BoardCase, claim, deal, duty, mend, play, plays, run,
    script, table, undo,
)

HANDS = ["CA DK H2", "C2 D2 S2", "C3 D3 S3", "C4 D4 H4"]
START = [deal(0, NO_TRUMPS, HANDS)]

# Each thing that can be done, so that every stretch of it can be undone; the board ends by an agreed claim.
LONG = START + [
    play(3, "D4"), WITHDRAW, play(0, "CA"), WITHDRAW, claim(1, 3), FORGET, duty(1, "D"), play(1, "D2"), play(2, "D3"),
    play(3, "C4"), mend("D4"), play(0, "H2"), mend("DK"), play(2, "C3"), ACCEPT, play(3, "C4"), play(0, "CA"),
    play(1, "S2"), claim(0, 1), AGREE,
]


class UndoTest(BoardCase):

    def test_nothing(self):
        self.check(START, (undo(0), [0]), (TABLE, table(1, 0, 3)))
        self.check(START + plays("1:C2"), (undo(0), [0]), (TABLE, table(2, 0, 3, on_table="1:C2")))

    def test_the_last_card(self):
        self.check(START + plays("1:C2 2:C3"), (undo(1), [0]), (TABLE, table(2, 0, 3, on_table="1:C2")),
                   (play(2, "C3"), [0, 0]))

    def test_back_into_a_finished_trick(self):
        self.check(START + plays("1:C2 2:C3 3:C4 0:CA"), (undo(1), [0]),
                   (TABLE, table(0, 0, 3, on_table="1:C2 2:C3 3:C4")), (play(0, "CA"), [0, 0]), (TABLE, table(0, 1, 2)))

    def test_all_and_one_more(self):
        done = plays("1:C2 2:C3 3:C4 0:CA 0:DK")
        self.check_refused(START + done, undo(6), -15)
        self.check_refused(START + done, undo(400), -15)
        self.check(START + done, (undo(5), [0]), (TABLE, table(1, 0, 3)), (undo(1), [-15]), (undo(0), [0]))
        self.check_refused(START, undo(1), -15)

    def test_several_undos_add_up(self):
        done = plays("1:C2 2:C3 3:C4 0:CA 0:DK")
        self.check(START + done, (undo(2), [0]), (undo(2), [0]), (TABLE, table(2, 0, 3, on_table="1:C2")),
                   (undo(2), [-15]), (undo(1), [0]), (TABLE, table(1, 0, 3)))

    def test_another_way_behind_an_undo(self):
        self.check(START + plays("1:C2 2:C3"), (undo(2), [0]), (play(1, "S2"), [0, 0]), (play(2, "S3"), [0, 0]),
                   (TABLE, table(3, 0, 3, on_table="1:S2 2:S3")), (undo(1), [0]),
                   (TABLE, table(2, 0, 3, on_table="1:S2")), (undo(2), [-15]))

    def test_refused_calls_and_questions_are_not_things_done(self):
        self.check(START + plays("1:C2"), (play(2, "D3"), [-8]), (TABLE, table(2, 0, 3, on_table="1:C2")),
                   (undo(2), [-15]), (undo(1), [0]), (TABLE, table(1, 0, 3)))

    def test_each_stretch_of_all_that_can_be_done(self):
        """After any undo all that can be asked is as it was, and the rest of the line is answered as the first time."""
        self.assertTrue(all(answer[0] == 0 for answer in run(LONG)))
        count = len(LONG) - 1
        shown = [run(LONG[:1 + end] + QUESTIONS)[1 + end:] for end in range(count + 1)]
        for end in range(count + 1):
            for k in range(end + 1):
                rest = LONG[1 + end - k:]
                again = run(LONG[:1 + end] + [undo(k)] + QUESTIONS + rest + QUESTIONS)[1 + end:]
                self.assertEqual(again[0], [0])
                self.assertEqual(again[1:1 + len(QUESTIONS)], shown[end - k], (end, k))
                self.assertEqual(again[1 + len(QUESTIONS):], run(LONG)[1 + end - k:] + shown[count], (end, k))

    def test_cards_of_scripts_one_by_one(self):
        """A line whose cards are played by scripts is undone as one whose cards are played by plays."""
        one_by_one = [play(3, "D4"), WITHDRAW] + plays("1:C2 2:C3 3:D4 0:CA 0:DK 1:D2 2:D3 3:C4 0:H2 1:S2 2:S3 3:H4")
        by_scripts = [play(3, "D4"), WITHDRAW, script("C2 C3 D4"), script(""), script("CA DK D2 D3 C4 H2 S2 S3 H4 C2")]
        for k in range(15):
            asked = [undo(k)] + QUESTIONS + [undo(15 - k), undo(14 - k)] + QUESTIONS
            self.assertEqual(run(START + by_scripts + asked)[6:], run(START + one_by_one + asked)[15:], k)

    def test_as_many_as_were_done_on_a_long_line(self):
        done = [play(3, "C4"), WITHDRAW] * 190
        self.check(START + done, (undo(381), [-15]), (undo(380), [0]), (TABLE, table(1, 0, 3)), (undo(1), [-15]))

    def test_not_beyond_a_deal(self):
        self.check(START + plays("1:C2") + START, (undo(1), [-15]), (TABLE, table(1, 0, 3)))


class UndoToTest(BoardCase):

    def test_a_fresh_revoke(self):
        before = START + plays("1:C2 2:C3 3:D4 0:CA")
        self.check_refused(before, mend("C4"), -11)
        self.check(before, (undo(1), [0]), (mend("C4"), [0, 0]), (TABLE, table(0, 0, 3, on_table="1:C2 2:C3 3:C4")))
        self.check(before, (undo(0), [0]), (mend("C4"), [-11]))

    def test_a_fresh_revoke_that_finished_a_trick(self):
        before = START + plays("1:C2 2:C3 3:C4 0:DK") + [claim(0, 1), FORGET]
        self.check(before, (undo(2), [0]), (TABLE, table(3, 1, 2)), (mend("CA"), [0, 0]), (TABLE, table(0, 1, 2)))

    def test_a_fresh_revoke_that_was_put_right(self):
        before = START + plays("1:C2 2:C3 3:D4") + [mend("C4")]
        self.check(before, (undo(1), [0]), (TABLE, table(0, 0, 3, on_table="1:C2 2:C3 3:D4")), (mend("C4"), [0, 0]))

    def test_before_a_revoke(self):
        self.check(START + plays("1:C2 2:C3 3:D4"), (undo(1), [0]), (mend("C4"), [-11]), (play(3, "C4"), [0, 0]),
                   (TABLE, table(0, 0, 3, on_table="1:C2 2:C3 3:C4")))

    def test_a_card_that_waits(self):
        for decision in (ACCEPT, WITHDRAW):
            self.check(START + [play(3, "C4"), decision], (undo(1), [0]), (TABLE, table(1, 0, 3, waits=1)),
                       (play(1, "C2"), [-5]), (ACCEPT, [0, 0]), (TABLE, table(0, 0, 3, on_table="3:C4")))
        self.check(START + [play(3, "C4")], (undo(1), [0]), (TABLE, table(1, 0, 3)), (ACCEPT, [-9]))

    def test_before_a_card_lay_face_up(self):
        self.check(START + [play(3, "C4"), WITHDRAW], (undo(2), [0]), (duty(1, "C"), [-12]))

    def test_a_duty(self):
        before = START + [play(3, "D4"), WITHDRAW, duty(2, "D")] + plays("1:C2")
        self.check(before, (undo(1), [0]), (TABLE, table(1, 0, 3, kind=2, suit=1)), (play(1, "D2"), [-7]),
                   (duty(1, "D"), [-12]), (undo(1), [0]), (TABLE, table(1, 0, 3)), (duty(1, "D"), [0, 0]))

    def test_a_claim(self):
        for y in (AGREE, FORGET):
            self.check(START + [claim(0, 2), y], (undo(1), [0]), (TABLE, table(1, 0, 3, waits=2)), (ACCEPT, [-9]),
                       (AGREE, [0, 0]), (TABLE, table(1, 0, 3, over=1)))
        self.check(START + [claim(0, 2)], (undo(1), [0]), (TABLE, table(1, 0, 3)), (AGREE, [-9]))

    def test_a_board_that_was_over(self):
        over = [deal(3, 0, ["C2", "C3", "C4", "C5"])] + plays("0:C2 1:C3 2:C4 3:C5")
        self.check(over, (undo(0), [0]), (TABLE, table(3, 1, 0, over=1)), (undo(1), [0]),
                   (TABLE, table(3, 0, 1, on_table="0:C2 1:C3 2:C4")), (play(3, "C5"), [0, 0]),
                   (TABLE, table(3, 1, 0, over=1)))
        claimed = START + [claim(1, 3), AGREE]
        self.check(claimed, (undo(0), [0]), (TABLE, table(1, 0, 3, over=1)), (undo(2), [0]), (TABLE, table(1, 0, 3)),
                   (play(1, "C2"), [0, 0]))


if __name__ == "__main__":
    unittest.main()
