import unittest

from tests.helper import (
    ACCEPT, AGREE, FORGET, NO_TRUMPS, TABLE, WITHDRAW, BoardCase, claim, deal, play, plays, raw_deal, table,
)

START = [deal(0, NO_TRUMPS, ["CA DK H2", "C2 D2 S2", "C3 D3 S3", "C4 D4 H4"])]
ONE_TRICK = START + plays("1:C2 2:C3 3:C4 0:CA")


class ClaimTest(BoardCase):

    def test_a_claim_waits(self):
        for side in (0, 1):
            for n in range(4):
                self.check(START, (claim(side, n), [0, 0]), (TABLE, table(1, 0, 3, waits=2)))

    def test_between_tricks(self):
        for n in range(3):
            self.check(ONE_TRICK, (claim(1, n), [0, 0]), (TABLE, table(0, 1, 2, waits=2)))

    def test_all_of_thirteen(self):
        row = [k % 4 for k in range(52)]
        self.check([raw_deal(0, 3, row)], (claim(0, 13), [0, 0]), (AGREE, [0, 0]), (TABLE, table(1, 0, 13, over=1)))

    def test_agreed_to(self):
        for side in (0, 1):
            for n in (0, 1, 2):
                self.check(ONE_TRICK + [claim(side, n)], (AGREE, [0, 0]), (TABLE, table(0, 1, 2, over=1)))

    def test_forgotten(self):
        for n in (0, 3):
            self.check(START + [claim(0, n)], (FORGET, [0, 1]), (TABLE, table(1, 0, 3)), (play(1, "C2"), [0, 0]))

    def test_another_claim_behind_a_forgotten_one(self):
        self.check(START + [claim(0, 3), FORGET], (claim(1, 0), [0, 0]), (AGREE, [0, 0]),
                   (TABLE, table(1, 0, 3, over=1)))


class ClaimRefusalTest(BoardCase):

    def test_over(self):
        self.check_refused(START + [claim(0, 1), AGREE], claim(0, 0), -4)
        over = [deal(3, 0, ["C2", "C3", "C4", "C5"])] + plays("0:C2 1:C3 2:C4 3:C5")
        self.check_refused(over, claim(0, 0), -4)
        self.check_refused(over, claim(1, 13), -4)

    def test_something_waits(self):
        for waits in (claim(1, 1), play(3, "C4")):
            self.check_refused(START + [waits], claim(0, 1), -5)
            self.check_refused(START + [waits], claim(0, 13), -5)
        self.check_refused(START + plays("1:C2 3:C4"), claim(0, 1), -5)

    def test_a_card_on_the_table(self):
        for before in ("1:C2", "1:C2 2:C3", "1:C2 2:C3 3:C4"):
            for n in (0, 3, 4):
                self.check_refused(START + plays(before), claim(0, n), -14)
        self.check_refused(START + [play(3, "C4"), ACCEPT], claim(0, 0), -14)

    def test_more_than_are_left(self):
        for n in (4, 13):
            self.check_refused(START, claim(1, n), -13)
        self.check_refused(ONE_TRICK, claim(0, 3), -13)


class AgreeRefusalTest(BoardCase):

    def test_no_claim_waits(self):
        for call in (AGREE, FORGET):
            self.check_refused(START, call, -9)
            self.check_refused(START + plays("1:C2"), call, -9)
            self.check_refused(START + plays("3:C4"), call, -9)
            self.check_refused(START + [play(3, "C4"), WITHDRAW], call, -9)
            self.check_refused(START + [claim(0, 1), AGREE], call, -9)
            self.check_refused(START + [claim(0, 1), FORGET], call, -9)


if __name__ == "__main__":
    unittest.main()
