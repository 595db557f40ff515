"""A board as it stands at one moment, and what the rules read from it."""

from trickboard.cards import partner_of, seat_behind, side_of, suit_of, winner_of

LEAD_THIS_SUIT = 1
LEAD_ANOTHER_SUIT = 2


class Board:
    """Plays, and cards that lie face up, are pairs of a seat and a card; a claim is a pair of a side and a number.

    A revoke is a seat, a trick's number from 1, and a suit. The cards of a hand are kept going up.
    """

    def __init__(self, declarer, trump, size, hands):
        self.declarer = declarer
        self.trump = trump
        self.size = size
        self.hands = hands
        self.tricks = []
        self.table = []
        self.faced = []
        self.duty_kind = 0
        self.duty_suit = 0
        self.waiting_card = None
        self.waiting_claim = None
        self.agreed_claim = None
        self.revokes = []
        self.fresh = False


def next_board(board):
    """A board to be changed in the place of this one, which undo may still need.

    Whatever is done next ends a fresh revoke, so that one thing isn't taken over.
    """
    later = Board(board.declarer, board.trump, board.size, [list(hand) for hand in board.hands])
    later.tricks = list(board.tricks)
    later.table = list(board.table)
    later.faced = list(board.faced)
    later.duty_kind = board.duty_kind
    later.duty_suit = board.duty_suit
    later.waiting_card = board.waiting_card
    later.waiting_claim = board.waiting_claim
    later.agreed_claim = board.agreed_claim
    later.revokes = list(board.revokes)
    return later


def winner_of_trick(board, number):
    """The winner of a finished trick; the first trick is number 1."""
    return winner_of(board.tricks[number - 1], board.trump)


def seat_on_turn(board):
    if board.table:
        return seat_behind(board.table[-1][0])
    if board.tricks:
        return winner_of_trick(board, len(board.tricks))
    return seat_behind(board.declarer)


def dummy_of(board):
    return partner_of(board.declarer)


def is_defender(board, seat):
    return side_of(seat) != side_of(board.declarer)


def tricks_left(board):
    return board.size - len(board.tricks)


def is_over(board):
    return tricks_left(board) == 0 or board.agreed_claim is not None


def something_waits(board):
    return board.waiting_card is not None or board.waiting_claim is not None


def busy_refusal(board):
    """Why nothing new can be begun on this board; 0 if it can."""
    if is_over(board):
        return -4
    if something_waits(board):
        return -5
    return 0


def cards_played(board):
    """In the order in which they were played."""
    cards = []
    for plays in board.tricks + [board.table]:
        cards.extend([play[1] for play in plays])
    return cards


def wanted_cards(board, hand):
    if board.table:
        led = suit_of(board.table[0][1])
        return [card for card in hand if suit_of(card) == led]
    if board.duty_kind == LEAD_THIS_SUIT:
        return [card for card in hand if suit_of(card) == board.duty_suit]
    if board.duty_kind == LEAD_ANOTHER_SUIT:
        return [card for card in hand if suit_of(card) != board.duty_suit]
    return list(hand)


def following_cards(board):
    hand = board.hands[seat_on_turn(board)]
    wanted = wanted_cards(board, hand)
    if wanted:
        return wanted
    return list(hand)


def pressing_cards(board):
    seat = seat_on_turn(board)
    return [card for card in following_cards(board) if (seat, card) in board.faced]


def legal_cards(board):
    pressing = pressing_cards(board)
    if pressing:
        return pressing
    return following_cards(board)


def faced_of_suit(board, seat, suit):
    return [pair for pair in board.faced if pair[0] == seat and suit_of(pair[1]) == suit]


def can_get_duty(board, suit):
    seat = seat_on_turn(board)
    if board.table or board.duty_kind != 0 or not is_defender(board, seat):
        return False
    return len(faced_of_suit(board, partner_of(seat), suit)) > 0
