import unittest

from tests.helper import (
    ACCEPT, AGREE, FORGET, NO_TRUMPS, TABLE, WITHDRAW, BoardCase, claim, deal, duty, mend, play, plays, run, table,
    undo,
)

HANDS = ["CA DK H2", "C2 D2 S2", "C3 D3 S3", "C4 D4 H4"]
START = [deal(0, NO_TRUMPS, HANDS)]

# Each thing that can be done, so that every stretch of it can be undone; the board ends by an agreed claim.
LONG = START + [
    play(3, "D4"), WITHDRAW, play(0, "CA"), WITHDRAW, claim(1, 3), FORGET, duty(1, "D"), play(1, "D2"), play(2, "D3"),
    play(3, "C4"), mend("D4"), play(0, "H2"), mend("DK"), play(2, "C3"), ACCEPT, play(3, "C4"), play(0, "CA"),
    play(1, "S2"), claim(0, 1), AGREE,
]


class UndoTest(BoardCase):

    def test_nothing(self):
        self.check(START, (undo(0), [0]), (TABLE, table(1, 0, 3)))
        self.check(START + plays("1:C2"), (undo(0), [0]), (TABLE, table(2, 0, 3, on_table="1:C2")))

    def test_the_last_card(self):
        self.check(START + plays("1:C2 2:C3"), (undo(1), [0]), (TABLE, table(2, 0, 3, on_table="1:C2")),
                   (play(2, "C3"), [0, 0]))

    def test_back_into_a_finished_trick(self):
        self.check(START + plays("1:C2 2:C3 3:C4 0:CA"), (undo(1), [0]),
                   (TABLE, table(0, 0, 3, on_table="1:C2 2:C3 3:C4")), (play(0, "CA"), [0, 0]), (TABLE, table(0, 1, 2)))

    def test_all_and_one_more(self):
        done = plays("1:C2 2:C3 3:C4 0:CA 0:DK")
        self.check_refused(START + done, undo(6), -15)
        self.check_refused(START + done, undo(400), -15)
        self.check(START + done, (undo(5), [0]), (TABLE, table(1, 0, 3)), (undo(1), [-15]), (undo(0), [0]))
        self.check_refused(START, undo(1), -15)

    def test_several_undos_add_up(self):
        done = plays("1:C2 2:C3 3:C4 0:CA 0:DK")
        self.check(START + done, (undo(2), [0]), (undo(2), [0]), (TABLE, table(2, 0, 3, on_table="1:C2")),
                   (undo(2), [-15]), (undo(1), [0]), (TABLE, table(1, 0, 3)))

    def test_another_way_behind_an_undo(self):
        self.check(START + plays("1:C2 2:C3"), (undo(2), [0]), (play(1, "S2"), [0, 0]), (play(2, "S3"), [0, 0]),
                   (TABLE, table(3, 0, 3, on_table="1:S2 2:S3")), (undo(1), [0]),
                   (TABLE, table(2, 0, 3, on_table="1:S2")), (undo(2), [-15]))

    def test_refused_calls_and_questions_are_not_things_done(self):
        self.check(START + plays("1:C2"), (play(2, "D3"), [-8]), (TABLE, table(2, 0, 3, on_table="1:C2")),
                   (undo(2), [-15]), (undo(1), [0]), (TABLE, table(1, 0, 3)))

    def test_each_stretch_of_all_that_can_be_done(self):
        """After any undo the rest of the line is answered just as it was the first time."""
        count = len(LONG) - 1
        calls = [LONG[0]]
        for call in LONG[1:]:
            calls += [call, TABLE]
        first = run(calls)
        self.assertTrue(all(answer[0] == 0 for answer in first))
        for end in range(count + 1):
            for k in range(end + 1):
                again = run(calls[:1 + 2 * end] + [undo(k), TABLE] + calls[1 + 2 * (end - k):])
                self.assertEqual(again[1 + 2 * end], [0])
                shown = first[2 * (end - k)] if end > k else table(1, 0, 3)
                self.assertEqual(again[2 + 2 * end], shown, (end, k))
                self.assertEqual(again[3 + 2 * end:], first[1 + 2 * (end - k):], (end, k))

    def test_as_many_as_were_done_on_a_long_line(self):
        done = [play(3, "C4"), WITHDRAW] * 190
        self.check(START + done, (undo(381), [-15]), (undo(380), [0]), (TABLE, table(1, 0, 3)), (undo(1), [-15]))

    def test_not_beyond_a_deal(self):
        self.check(START + plays("1:C2") + START, (undo(1), [-15]), (TABLE, table(1, 0, 3)))


class UndoToTest(BoardCase):

    def test_a_fresh_revoke(self):
        before = START + plays("1:C2 2:C3 3:D4 0:CA")
        self.check_refused(before, mend("C4"), -11)
        self.check(before, (undo(1), [0]), (mend("C4"), [0, 0]), (TABLE, table(0, 0, 3, on_table="1:C2 2:C3 3:C4")))
        self.check(before, (undo(0), [0]), (mend("C4"), [-11]))

    def test_a_fresh_revoke_that_finished_a_trick(self):
        before = START + plays("1:C2 2:C3 3:C4 0:DK") + [claim(0, 1), FORGET]
        self.check(before, (undo(2), [0]), (TABLE, table(3, 1, 2)), (mend("CA"), [0, 0]), (TABLE, table(0, 1, 2)))

    def test_a_fresh_revoke_that_was_put_right(self):
        before = START + plays("1:C2 2:C3 3:D4") + [mend("C4")]
        self.check(before, (undo(1), [0]), (TABLE, table(0, 0, 3, on_table="1:C2 2:C3 3:D4")), (mend("C4"), [0, 0]))

    def test_before_a_revoke(self):
        self.check(START + plays("1:C2 2:C3 3:D4"), (undo(1), [0]), (mend("C4"), [-11]), (play(3, "C4"), [0, 0]),
                   (TABLE, table(0, 0, 3, on_table="1:C2 2:C3 3:C4")))

    def test_a_card_that_waits(self):
        for decision in (ACCEPT, WITHDRAW):
            self.check(START + [play(3, "C4"), decision], (undo(1), [0]), (TABLE, table(1, 0, 3, waits=1)),
                       (play(1, "C2"), [-5]), (ACCEPT, [0, 0]), (TABLE, table(0, 0, 3, on_table="3:C4")))
        self.check(START + [play(3, "C4")], (undo(1), [0]), (TABLE, table(1, 0, 3)), (ACCEPT, [-9]))

    def test_before_a_card_lay_face_up(self):
        self.check(START + [play(3, "C4"), WITHDRAW], (undo(2), [0]), (duty(1, "C"), [-12]))

    def test_a_duty(self):
        before = START + [play(3, "D4"), WITHDRAW, duty(2, "D")] + plays("1:C2")
        self.check(before, (undo(1), [0]), (TABLE, table(1, 0, 3, kind=2, suit=1)), (play(1, "D2"), [-7]),
                   (duty(1, "D"), [-12]), (undo(1), [0]), (TABLE, table(1, 0, 3)), (duty(1, "D"), [0, 0]))

    def test_a_claim(self):
        for y in (AGREE, FORGET):
            self.check(START + [claim(0, 2), y], (undo(1), [0]), (TABLE, table(1, 0, 3, waits=2)), (ACCEPT, [-9]),
                       (AGREE, [0, 0]), (TABLE, table(1, 0, 3, over=1)))
        self.check(START + [claim(0, 2)], (undo(1), [0]), (TABLE, table(1, 0, 3)), (AGREE, [-9]))

    def test_a_board_that_was_over(self):
        over = [deal(3, 0, ["C2", "C3", "C4", "C5"])] + plays("0:C2 1:C3 2:C4 3:C5")
        self.check(over, (undo(0), [0]), (TABLE, table(3, 1, 0, over=1)), (undo(1), [0]),
                   (TABLE, table(3, 0, 1, on_table="0:C2 1:C3 2:C4")), (play(3, "C5"), [0, 0]),
                   (TABLE, table(3, 1, 0, over=1)))
        claimed = START + [claim(1, 3), AGREE]
        self.check(claimed, (undo(0), [0]), (TABLE, table(1, 0, 3, over=1)), (undo(2), [0]), (TABLE, table(1, 0, 3)),
                   (play(1, "C2"), [0, 0]))


if __name__ == "__main__":
    unittest.main()
